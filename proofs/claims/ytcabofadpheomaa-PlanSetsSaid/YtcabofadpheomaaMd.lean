/-
  Texts in one: M25 M26 M27 M28 M29 M30.
-/
import Derived.Test.YtcabofadpheomaaMa

section
/-
  Slots behind each of the writes of an insert: an order is kept, and what there is.
-/
namespace Go.Sx.M

end Go.Sx.M
end

section
/-
  The ways of both orders are such as keep them.
-/
namespace Go.Sx.M

end Go.Sx.M
end

section
/-
  Steps made writes: each of them keeps the order, and what is told is what the one or the other table tells.
-/
namespace Go.Sx.M

/-- Orders of slots: which there are; are they kept; an insert's writes, or why there are none. -/
def isO (o : Int) : Bool := decide (o = 0) || decide (o = 1)
def kpO (o : Int) (l : List Sl) : Bool := if o = 0 then kpS l else decide (o = 1) && orE (ensS l)
def wO (o : Int) (l : List Sl) (x : En) : List Wr := if o = 0 then inW l x else if o = 1 then wC l x else []
def eO (o : Int) (l : List Sl) (x : En) : Int := if o = 0 then inE l x else if o = 1 then eC l x else 1

/-- What a step that sets, or drops, writes of a slot; of i slots. -/
def tchW (s : Sp) (i : Nat) (y : Sl) : List Wr :=
  if y.ok && alE y.e s.e then (if s.k = 2 then [⟨i, zS⟩] else if s.k = 1 ∧ y.e.act ≠ s.e.act then [⟨i, ⟨true, s.e⟩⟩] else []) else []
def tcW (l : List Sl) (s : Sp) : Nat → List Wr
  | 0 => []
  | i + 1 => tcW l s i ++ tchW s i (at' l i)

/-- One step: may it be; its writes, or why there are none. -/
def okP (o : Int) (s : Sp) : Bool := isO o && (decide (0 ≤ s.k) && decide (s.k ≤ 2)) && rtE s.e
def oneW (o : Int) (l : List Sl) (s : Sp) : List Wr := if okP o s then (if s.k = 0 then wO o l s.e else tcW l s l.length) else []
def oneE (o : Int) (l : List Sl) (s : Sp) : Int := if okP o s then (if s.k = 0 then eO o l s.e else 0) else 1

/-- All steps: from the first one on. -/
def allE (o : Int) : List Sp → List Sl → Int
  | [], _ => 0
  | s :: r, l => if oneE o l s = 0 then allE o r (apL l (oneW o l s)) else oneE o l s
def allW (o : Int) : List Sp → List Sl → List Wr
  | [], _ => []
  | s :: r, l => if oneE o l s = 0 ∧ allE o r (apL l (oneW o l s)) = 0 then oneW o l s ++ allW o r (apL l (oneW o l s)) else []

theorem allW_err {o : Int} : ∀ {r : List Sp} {l : List Sl}, allE o r l ≠ 0 → allW o r l = []
  | [], _, h => absurd rfl h
  | s :: r, l, h => by
    rw [allE] at h
    rw [allW]
    split at h
    · rename_i h1
      rw [if_neg fun hh => h hh.2]
    · rename_i h1
      rw [if_neg fun hh => h1 hh.1]

/-- No two valid slots' entries are alike. -/
def UqS (l : List Sl) : Prop := ∀ i, i < l.length → ∀ k, k < i → (at' l k).ok = true → (at' l i).ok = true → alE (at' l k).e (at' l i).e = false

theorem UqS.two {l : List Sl} (h : UqS l) {i j : Nat} (hi : i < l.length) (hj : j < l.length) (h1 : (at' l i).ok = true) (h2 : (at' l j).ok = true) (ha : alE (at' l i).e (at' l j).e = true) : i = j := by
  rcases Nat.lt_trichotomy i j with hh | hh | hh
  · rw [h j hj i hh h1 h2] at ha; cases ha
  · exact hh
  · rw [alE_comm, h i hi j hh h2 h1] at ha; cases ha

/-- A step that comes between two tables. -/
inductive StepP (cur : List En) (s : Sp) : Prop
  | add (h : s.k = 0) (hn : ∀ x ∈ cur, alE x s.e = false)
  | set (h : s.k = 1) (z : En) (hz : z ∈ cur) (ha : alE z s.e = true)
  | drop (h : s.k = 2)

theorem okP_of {o : Int} {s : Sp} (ho : isO o = true) (hx : rtE s.e = true) (hk : s.k = 0 ∨ s.k = 1 ∨ s.k = 2) : okP o s = true := by
  unfold okP
  rw [ho, hx, decide_eq_true (show 0 ≤ s.k by omega), decide_eq_true (show s.k ≤ 2 by omega)]
  rfl

end Go.Sx.M
end

section
/-
  From one table's entries to another one's: behind each write of all steps.
-/
namespace Go.Sx.M

/-- What is told of it is what the one or the other row tells. -/
def Mix (a b cur : List En) : Prop :=
  (∀ z ∈ cur, (z ∈ b ∧ ∀ y ∈ b, z.len < y.len → y ∈ cur) ∨ (z ∈ a ∧ ∀ x ∈ a, z.len < x.len → x ∈ cur ∨ ∃ y ∈ cur, alE y x = true)) ∧
  ((∀ x ∈ a, x ∈ cur ∨ ∃ y ∈ cur, alE y x = true) ∨ ∀ y ∈ b, y ∈ cur)

/-- Steps that lead from one row, by such as come between, to the other one. -/
def GoodP (a b : List En) : List Sp → List En → Prop
  | [], cur => UqE cur ∧ Mix a b cur ∧ cur.Perm b
  | s :: r, cur => (UqE cur ∧ Mix a b cur ∧ StepP cur s ∧ (s.e ∈ a ∨ s.e ∈ b)) ∧ GoodP a b r (doE cur s)

theorem GoodP.here {a b : List En} {S : List Sp} {cur : List En} (h : GoodP a b S cur) : UqE cur ∧ Mix a b cur := by
  cases S with
  | nil => exact ⟨h.1, h.2.1⟩
  | cons s r => exact ⟨h.1.1, h.1.2.1⟩

theorem apL_append (l : List Sl) (w v : List Wr) : apL l (w ++ v) = apL (apL l w) v := by unfold apL; rw [List.foldl_append]

end Go.Sx.M
end

section
/-
  Slots that entries are laid in one by one; twins; what a step that sets, or drops, leaves.
-/
namespace Go.Sx.M

/-- Twins: slots whose entry is alike to a lower one's. -/
def isT (l : List Sl) (i : Nat) : Bool := (List.range i).any fun k => (at' l i).ok && (at' l k).ok && alE (at' l i).e (at' l k).e
def twW (l : List Sl) : Nat → List Wr
  | 0 => []
  | i + 1 => if isT l i then twW l i ++ [⟨i, zS⟩] else twW l i

theorem isT_iff {l : List Sl} {i : Nat} : isT l i = true ↔ ∃ k, k < i ∧ (at' l i).ok = true ∧ (at' l k).ok = true ∧ alE (at' l i).e (at' l k).e = true := by
  unfold isT
  rw [List.any_eq_true]
  constructor
  · rintro ⟨k, hk, h⟩
    rw [Bool.and_eq_true, Bool.and_eq_true] at h
    exact ⟨k, List.mem_range.1 hk, h.1.1, h.1.2, h.2⟩
  · rintro ⟨k, hk, h1, h2, h3⟩
    exact ⟨k, List.mem_range.2 hk, by rw [h1, h2, h3]; rfl⟩

/-- Slots as the writes of the first n leave them. -/
def twL (l : List Sl) (n : Nat) : List Sl := apL l (twW l n)

theorem tw_put {l m : List Sl} {i : Nat} (hi : i < l.length) (hm : m.length = l.length) : apL m [⟨(i : Int), zS⟩] = m.set i zS := by
  rw [apL_one]
  unfold apS
  rw [if_pos, Int.toNat_natCast]
  rw [mayS_in (by show 0 ≤ (i : Int) ∧ (i : Int) < (m.length : Int); omega)]
  unfold rtS
  simp

theorem tw_at (l : List Sl) : ∀ n, n ≤ l.length → ∀ j, at' (twL l n) j = if j < n ∧ isT l j = true then zS else at' l j
  | 0, _, j => by rw [if_neg (by omega)]; rfl
  | n + 1, hn, j => by
    have ih := tw_at l n (by omega)
    unfold twL at ih ⊢
    rw [twW]
    cases ht : isT l n with
    | false =>
      rw [if_neg (by simp), ih j]
      by_cases hj : j = n
      · subst hj; rw [if_neg (by omega), if_neg (by rw [ht]; simp)]
      · by_cases h : j < n ∧ isT l j = true
        · rw [if_pos h, if_pos ⟨by omega, h.2⟩]
        · rw [if_neg h, if_neg fun h' => h ⟨by omega, h'.2⟩]
    | true =>
      rw [if_pos rfl, apL_append, tw_put hn (apL_length _ _), at_set, apL_length, ih j]
      by_cases hj : n = j
      · subst hj; rw [if_pos ⟨rfl, hn⟩, if_pos ⟨Nat.lt_succ_self _, ht⟩]
      · rw [if_neg fun h => hj h.1]
        by_cases h : j < n ∧ isT l j = true
        · rw [if_pos h, if_pos ⟨by omega, h.2⟩]
        · rw [if_neg h, if_neg fun h' => h ⟨by omega, h'.2⟩]

/-- Behind any of the writes the same is told. -/
theorem tw_tell (l : List Sl) (a b : BitVec 64) : ∀ n, n ≤ l.length → fnS (twL l n) a b = fnS l a b := fun n hn => by
  have hlen : (twL l n).length = l.length := apL_length _ _
  refine FoundS.uniq (fnS_spec _ _ _) ?_
  have hat := tw_at l n hn
  rcases fnS_spec l a b with ⟨h1, h2⟩ | ⟨k, h1, h2, h3, h4⟩
  · refine .inl ⟨h1, fun j hj => ?_⟩
    rw [hat]
    split
    · rfl
    · exact h2 j (by omega)
  · refine .inr ⟨k, h1, by omega, ?_, fun j hj => ?_⟩
    · rw [hat, if_neg]
      · exact h3
      · rintro ⟨_, ht⟩
        obtain ⟨q, hq, _, g2, g3⟩ := isT_iff.1 ht
        have := h4 q hq
        unfold mtS at h3 this
        rw [Bool.and_eq_true] at h3
        rw [g2, ← alE_match g3, h3.2] at this
        cases this
    · rw [hat]
      split
      · rfl
      · exact h4 j hj

theorem tw_tls (l : List Sl) (a b : BitVec 64) {n : Nat} (hn : n ≤ l.length) : tlS (twL l n) a b = tlS l a b := by
  have h := tw_tell l a b n hn
  unfold tlS
  rw [h]
  split
  · rfl
  · rename_i hp
    rcases fnS_spec l a b with ⟨h1, _⟩ | ⟨k, h1, h2, h3, h4⟩
    · omega
    · rw [h1, Int.toNat_natCast, tw_at l n hn, if_neg]
      rintro ⟨_, ht⟩
      obtain ⟨q, hq, _, g2, g3⟩ := isT_iff.1 ht
      have := h4 q hq
      unfold mtS at h3 this
      rw [Bool.and_eq_true] at h3
      rw [g2, ← alE_match g3, h3.2] at this
      cases this

/-- Behind all there are no twins. -/
theorem tw_done (l : List Sl) : ∀ n, n ≤ l.length → twW (twL l l.length) n = [] := fun n => by
  have hlen : (twL l l.length).length = l.length := apL_length _ _
  have hno : ∀ i, i < l.length → isT (twL l l.length) i = false := fun i hi => by
    cases ht : isT (twL l l.length) i with
    | false => rfl
    | true =>
      obtain ⟨k, hk, h1, h2, h3⟩ := isT_iff.1 ht
      rw [tw_at l _ (Nat.le_refl _)] at h1 h2 h3
      rw [tw_at l _ (Nat.le_refl _)] at h3
      split at h1
      · cases h1
      · rename_i hn1
        split at h2
        · cases h2
        · rename_i hn2
          rw [if_neg hn1, if_neg hn2] at h3
          exact absurd ⟨hi, isT_iff.2 ⟨k, hk, h1, h2, h3⟩⟩ hn1
  induction n with
  | zero => intro _; rfl
  | succ n ih =>
    intro hn
    rw [twW, hno n hn, if_neg (by simp)]
    exact ih (by omega)

theorem twW_length (l : List Sl) : ∀ n, (twW l n).length ≤ n
  | 0 => Nat.le_refl _
  | n + 1 => by
    have := twW_length l n
    rw [twW]
    split
    · rw [List.length_append, List.length_singleton]; omega
    · omega

/-- The first writes are those of the first slots. -/
theorem tw_take (l : List Sl) : ∀ n p, p ≤ (twW l n).length → ∃ i, i ≤ n ∧ (twW l n).take p = twW l i
  | 0, p, _ => ⟨0, Nat.le_refl _, by rw [twW, List.take_nil]⟩
  | n + 1, p, hp => by
    rw [twW] at hp ⊢
    split at hp
    · rename_i h
      rw [if_pos h]
      rw [List.length_append, List.length_singleton] at hp
      by_cases hlt : p ≤ (twW l n).length
      · obtain ⟨i, hi, e⟩ := tw_take l n p hlt
        exact ⟨i, by omega, by rw [List.take_append_of_le_length hlt, e]⟩
      · refine ⟨n + 1, Nat.le_refl _, ?_⟩
        rw [List.take_of_length_le (by rw [List.length_append, List.length_singleton]; omega), twW, if_pos h]
    · rename_i h
      rw [if_neg h]
      obtain ⟨i, hi, e⟩ := tw_take l n p hp
      exact ⟨i, by omega, e⟩

/-- What a step that sets, or drops, leaves of a slot. -/
def tcS (s : Sp) (y : Sl) : Sl := if y.ok && alE y.e s.e then (if s.k = 2 then zS else if s.k = 1 then ⟨true, s.e⟩ else y) else y

theorem tc_put {l m : List Sl} {s : Sp} (hx : rtE s.e = true) {i : Nat} (hi : i < m.length) (hm : at' m i = at' l i) : ∀ j, at' (apL m (tchW s i (at' l i))) j = if j = i then tcS s (at' l i) else at' m j := fun j => by
  have put : ∀ t : Sl, rtS t = true → at' (apL m [⟨(i : Int), t⟩]) j = if j = i then t else at' m j := fun t ht => by
    rw [apL_one]
    unfold apS
    rw [if_pos (by rw [mayS_in (by show 0 ≤ (i : Int) ∧ (i : Int) < (m.length : Int); omega)]; exact ht), at_set, Int.toNat_natCast]
    by_cases e : i = j
    · rw [if_pos ⟨e, by omega⟩, if_pos e.symm]
    · rw [if_neg fun h => e h.1, if_neg fun h => e h.symm]
  have same : at' m j = if j = i then at' l i else at' m j := by
    split
    · rename_i h; rw [h, hm]
    · rfl
  unfold tchW tcS
  split
  · split
    · exact put zS (by unfold rtS; simp)
    · split
      · rename_i h
        rw [if_pos h.1]
        exact put _ (by unfold rtS; rw [hx]; simp)
      · rename_i hc h2 h
        by_cases hk : s.k = 1
        · rw [if_pos hk]
          have ha : (at' l i).e.act = s.e.act := Classical.byContradiction fun hh => h ⟨hk, hh⟩
          rw [Bool.and_eq_true] at hc
          have e1 := alE_act hc.2 ha
          have e2 : at' l i = ⟨true, s.e⟩ := by
            have : at' l i = ⟨(at' l i).ok, (at' l i).e⟩ := rfl
            rw [this, hc.1, e1]
          rw [← e2]
          exact same
        · rw [if_neg hk]
          exact same
  · exact same

theorem tc_at {l : List Sl} {s : Sp} (hx : rtE s.e = true) : ∀ n, n ≤ l.length → ∀ j, at' (apL l (tcW l s n)) j = if j < n then tcS s (at' l j) else at' l j
  | 0, _, j => by rw [if_neg (by omega)]; rfl
  | n + 1, hn, j => by
    have ih := tc_at (l := l) hx n (by omega)
    rw [tcW, apL_append, tc_put hx (by rw [apL_length]; exact hn) (by rw [ih n, if_neg (Nat.lt_irrefl _)]), ih j]
    by_cases h : j = n
    · subst h; rw [if_pos rfl, if_pos (Nat.lt_succ_self _)]
    · rw [if_neg h]
      by_cases h2 : j < n
      · rw [if_pos h2, if_pos (by omega)]
      · rw [if_neg h2, if_neg (by omega)]

theorem tch_length (s : Sp) (i : Nat) (y : Sl) : (tchW s i y).length ≤ 1 := by
  unfold tchW
  split
  · split
    · simp
    · split <;> simp
  · simp

theorem tcW_length (l : List Sl) (s : Sp) : ∀ n, (tcW l s n).length ≤ n
  | 0 => Nat.le_refl _
  | n + 1 => by
    have := tcW_length l s n
    have := tch_length s n (at' l n)
    rw [tcW, List.length_append]; omega

end Go.Sx.M
end

section
/-
  How many writes an insert takes: no more than there are lengths, and one; than a chain has, and one. The steps between two tables that differ in one entry.
-/
namespace Go.Sx.M

/-- Numbers that differ, all of which are lengths: no more than there are lengths. -/
theorem ln_ge {l : List Sl} : ∀ (n : Nat), n ≤ l.length → ∀ L : List Int, L.Nodup → (∀ z ∈ L, ∃ j, j < n ∧ (at' l j).ok = true ∧ (at' l j).e.len = z) → L.length ≤ lnS l n
  | 0, _, L, _, h => by
    cases L with
    | nil => exact Nat.le_refl _
    | cons z L => obtain ⟨j, hj, _⟩ := h z List.mem_cons_self; omega
  | n + 1, hn, L, hd, h => by
    have hk : knS l n = true → ∃ j, j < n ∧ (at' l j).ok = true ∧ (at' l j).e.len = (at' l n).e.len := fun hk => by
      unfold knS at hk
      obtain ⟨y, hy, hp⟩ := List.any_eq_true.1 hk
      rw [Bool.and_eq_true, decide_eq_true_eq] at hp
      obtain ⟨j, hj, rfl⟩ := mem_at hy
      rw [List.length_take] at hj
      have e : at' (l.take n) j = at' l j := by
        unfold at'
        rw [List.getD_eq_getElem?_getD, List.getD_eq_getElem?_getD, List.getElem?_take, if_pos (by omega)]
      rw [e] at hp
      exact ⟨j, by omega, hp.1, hp.2⟩
    rw [lnS]
    split
    · have := ln_ge (l := l) n (by omega) (L.erase (at' l n).e.len) (hd.erase _) fun z hz => by
        obtain ⟨h1, h2⟩ := (hd.mem_erase_iff).1 hz
        obtain ⟨j, j1, j2, j3⟩ := h z h2
        refine ⟨j, Nat.lt_of_le_of_ne (by omega) fun e => ?_, j2, j3⟩
        rw [e] at j3
        exact h1 j3.symm
      have h2 := List.length_erase_le (a := (at' l n).e.len) (l := L)
      by_cases hm : (at' l n).e.len ∈ L
      · rw [List.length_erase_of_mem hm] at this; omega
      · rw [List.erase_of_not_mem hm] at this; omega
    · rename_i hc
      refine ln_ge n (by omega) L hd fun z hz => ?_
      obtain ⟨j, j1, j2, j3⟩ := h z hz
      by_cases e : j = n
      · rw [e] at j2 j3
        have hk2 : knS l n = true := by
          cases hkn : knS l n with
          | true => rfl
          | false => rw [j2, hkn] at hc; exact absurd rfl hc
        obtain ⟨i, i1, i2, i3⟩ := hk hk2
        exact ⟨i, i1, i2, i3.trans j3⟩
      · exact ⟨j, by omega, j2, j3⟩

/-- A way's slots: their lengths differ. -/
def LenW (l : List Sl) (r : List Nat) : Prop := (r.map fun v => (at' l v).e.len).Nodup ∧ ∀ v ∈ r, v < l.length ∧ (at' l v).ok = true

theorem lenW_le {l : List Sl} {r : List Nat} (h : LenW l r) : r.length ≤ lnS l l.length := by
  have := ln_ge l.length (Nat.le_refl _) (r.map fun v => (at' l v).e.len) h.1 fun z hz => by
    obtain ⟨v, hv, rfl⟩ := List.mem_map.1 hz
    exact ⟨v, (h.2 v hv).1, (h.2 v hv).2, rfl⟩
  rwa [List.length_map] at this

theorem bel_lens {l : List Sl} {t : Nat} {x : En} : ∀ p, t ≤ p → p < l.length → (∀ j, t ≤ j → j < p → (at' l j).ok = true) → ∃ r, (belS l t x p).length = r.length + 1 ∧ LenW l r ∧ ∀ v ∈ r, t ≤ v ∧ v < p := by
  intro p
  induction p using Nat.strongRecOn with
  | _ p ih =>
    intro h1 h2 h3
    by_cases htp : t < p
    · obtain ⟨b1, b2, b3, b4⟩ := blN_spec l p (p - t) (by omega) (by omega)
      obtain ⟨r, e, hd, hb⟩ := ih _ b2 (by omega) (by omega) fun j j1 j2 => h3 j j1 (by omega)
      have eb := belS_step (l := l) (x := x) htp
      rw [eb]
      generalize blN l p (p - t) = q at b1 b2 b3 b4 e hd hb
      refine ⟨q :: r, by rw [List.length_cons, e, List.length_cons], ⟨?_, fun v hv => ?_⟩, fun v hv => ?_⟩
      · rw [List.map_cons, List.nodup_cons]
        refine ⟨fun hm => ?_, hd.1⟩
        obtain ⟨v, hv, he⟩ := List.mem_map.1 hm
        have := hb v hv
        exact b4 v (by omega) this.2 (he.trans b3)
      · rcases List.mem_cons.1 hv with rfl | hv
        · exact ⟨by omega, h3 _ (by omega) b2⟩
        · exact hd.2 v hv
      · rcases List.mem_cons.1 hv with rfl | hv
        · omega
        · have := hb v hv; omega
    · exact ⟨[], by rw [belS_end htp]; rfl, ⟨List.nodup_nil, fun v hv => by cases hv⟩, fun v hv => by cases hv⟩

theorem abo_lens {l : List Sl} {t : Nat} {x : En} (ht : t < l.length) : ∀ d p, p + d = t → (∀ j, p < j → j ≤ t → (at' l j).ok = true) → ∃ r, (aboS l t x p).length = r.length + 1 ∧ LenW l r ∧ ∀ v ∈ r, p < v ∧ v ≤ t := by
  intro d
  induction d using Nat.strongRecOn with
  | _ d ih =>
    intro p h1 h3
    by_cases htp : p < t
    · obtain ⟨b1, b2, b3, b4⟩ := abN_spec l p (t - p) (by omega)
      obtain ⟨r, e, hd, hb⟩ := ih (t - abN l p (t - p)) (by omega) (abN l p (t - p)) (by omega) fun j j1 j2 => h3 j (by omega) j2
      have eb := aboS_step (l := l) (x := x) htp
      rw [eb]
      generalize abN l p (t - p) = q at b1 b2 b3 b4 e hd hb
      refine ⟨q :: r, by rw [List.length_cons, e, List.length_cons], ⟨?_, fun v hv => ?_⟩, fun v hv => ?_⟩
      · rw [List.map_cons, List.nodup_cons]
        refine ⟨fun hm => ?_, hd.1⟩
        obtain ⟨v, hv, he⟩ := List.mem_map.1 hm
        have := hb v hv
        exact b4 v this.1 (by omega) (he.trans b3)
      · rcases List.mem_cons.1 hv with rfl | hv
        · exact ⟨by omega, h3 _ b1 (by omega)⟩
        · exact hd.2 v hv
      · rcases List.mem_cons.1 hv with rfl | hv
        · omega
        · have := hb v hv; omega
    · exact ⟨[], by rw [aboS_end htp]; rfl, ⟨List.nodup_nil, fun v hv => by cases hv⟩, fun v hv => by cases hv⟩

/-- No more writes than there are lengths, and one. -/
theorem inO_few (l : List Sl) (x : En) : (inO l x).length ≤ lnS l l.length + 1 := by
  have hb : 0 ≤ dnG l x.len → (bel l x).length ≤ lnS l l.length + 1 := fun h => by
    obtain ⟨p, e, h1, h2, h3⟩ := dn_at h
    obtain ⟨r, e2, hd, _⟩ := bel_lens (l := l) (t := gtS l x.len) (x := x) p (by omega) h2 h3
    have := lenW_le hd
    unfold bel
    rw [e, Int.toNat_natCast, e2]; omega
  have ha : 0 ≤ upG l x.len → (abo l x).length ≤ lnS l l.length + 1 := fun h => by
    obtain ⟨p, e, h1, h2, h3⟩ := up_at h
    obtain ⟨r, e2, hd, _⟩ := abo_lens (l := l) (t := gfS l x.len - 1) (x := x) (by omega) (gfS l x.len - 1 - p) p (by omega) fun j j1 j2 => h3 j j1 (by omega)
    have := lenW_le hd
    unfold abo
    rw [e, Int.toNat_natCast, e2]; omega
  unfold inO
  split
  · split
    · split
      · exact Nat.zero_le _
      · exact ha (by omega)
    · split
      · rename_i h; exact ha h.1
      · exact hb (by omega)
  · simp

theorem inW_few (l : List Sl) (x : En) : (inW l x).length ≤ l.length + 1 := by
  have h1 := inO_few l x
  have h2 := lnS_le l l.length (Nat.le_refl _)
  have h3 := ensS_length l
  rw [List.take_length] at h2
  unfold inW
  split
  · omega
  · exact Nat.zero_le _

theorem wO_few (o : Int) (l : List Sl) (x : En) : (wO o l x).length ≤ l.length + 1 := by
  unfold wO
  split
  · exact inW_few l x
  · split
    · exact wC_len l x
    · exact Nat.zero_le _

theorem oneW_few (o : Int) (l : List Sl) (s : Sp) : (oneW o l s).length ≤ l.length + 1 := by
  unfold oneW
  split
  · split
    · exact wO_few o l s.e
    · exact Nat.le_succ_of_le (tcW_length l s l.length)
  · exact Nat.zero_le _

theorem allW_few (o : Int) : ∀ (S : List Sp) (l : List Sl), (allW o S l).length ≤ S.length * (l.length + 1)
  | [], l => Nat.zero_le _
  | s :: r, l => by
    rw [allW]
    split
    · have h1 := oneW_few o l s
      have h2 := allW_few o r (apL l (oneW o l s))
      rw [apL_length] at h2
      rw [List.length_append, List.length_cons, Nat.succ_mul]
      omega
    · exact Nat.zero_le _

/-- A step that adds is an insert. -/
theorem one_add (o : Int) (l : List Sl) (x : En) : oneW o l ⟨0, x⟩ = wO o l x ∧ oneE o l ⟨0, x⟩ = eO o l x := by
  have bad : okP o ⟨0, x⟩ = false → wO o l x = [] → eO o l x = 1 → oneW o l ⟨0, x⟩ = wO o l x ∧ oneE o l ⟨0, x⟩ = eO o l x := fun h h1 h2 => by
    unfold oneW oneE
    rw [h, h1, h2]; exact ⟨rfl, rfl⟩
  cases ho : isO o with
  | false =>
    have h0 : o ≠ 0 ∧ o ≠ 1 := by
      unfold isO at ho
      rw [Bool.or_eq_false_iff, decide_eq_false_iff_not, decide_eq_false_iff_not] at ho
      exact ho
    refine bad (by unfold okP; rw [ho]; rfl) ?_ ?_
    · unfold wO; rw [if_neg h0.1, if_neg h0.2]
    · unfold eO; rw [if_neg h0.1, if_neg h0.2]
  | true =>
    cases hx : rtE x with
    | false =>
      refine bad (by unfold okP; rw [show rtE (Sp.mk 0 x).e = false from hx, Bool.and_false]) ?_ ?_
      · unfold wO inW wC
        rw [hx]
        split
        · rfl
        · split <;> rfl
      · unfold eO inE eC
        rw [hx]
        split
        · rfl
        · split <;> rfl
    | true =>
      have hok := okP_of (s := ⟨0, x⟩) ho hx (.inl rfl)
      unfold oneW oneE
      rw [hok]; exact ⟨rfl, rfl⟩

end Go.Sx.M
end

