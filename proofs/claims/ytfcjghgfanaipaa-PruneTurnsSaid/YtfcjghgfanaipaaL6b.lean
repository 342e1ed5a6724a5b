/-
  Texts in one: L6V L6R L6S L6U L6L.
-/
import Derived.Test.YtfcjghgfanaipaaL6a
import Derived.Test.YtfcjghgfanaipaaSxR
import Derived.Test.YtfcjghgfanaipaaShelf

section
/-
  Layer 6: how many routes of a table cover one another, by how many cover each: plain mathematics.
-/
namespace Go.Sx.M
open Go.Proofs.Ytfcjghgfanaipaa.L1

/-- A table's order, by places. -/
theorem TB.at {w : Int} {l : List Ro} (h : TB w l) {i j : Nat} (hij : i < j) (hj : j < l.length) : cpP (at' l i).p (at' l j).p < 0 := by
  have hi : i < l.length := by omega
  have := List.pairwise_iff_getElem.1 h.sorted i j hi hj hij
  have e1 : l[i] = at' l i := by have := at_get hi; rw [List.getElem?_eq_getElem hi] at this; exact Option.some_inj.1 this
  have e2 : l[j] = at' l j := by have := at_get hj; rw [List.getElem?_eq_getElem hj] at this; exact Option.some_inj.1 this
  rw [e1, e2] at this
  exact this

/-- One covers another, and is not it. -/
def ovP (p q : Pf) : Bool := !decide (q = p) && cvP p q

theorem ovP_iff {p q : Pf} : ovP p q = true ↔ q ≠ p ∧ cvP p q = true := by unfold ovP; simp

/-- What covers another one that may be stands ahead of it. -/
theorem ovP_lt {w w' : Int} {p q : Pf} (hp : riP w p = true) (hq : riP w' q = true) (h : ovP p q = true) : cpP p q < 0 := by
  obtain ⟨hn, hc⟩ := ovP_iff.1 h
  obtain ⟨_, p1, p2, p3⟩ := riP_iff.1 hp
  obtain ⟨_, q1, q2, q3⟩ := riP_iff.1 hq
  obtain ⟨c1, c2⟩ := cvP_iff.1 hc
  have hle : V p.a p.b ≤ V q.a q.b := V_sub fun i hi hb => by
    by_cases h' : (i : Int) < p.len
    · rw [← c2 i hi h']; exact hb
    · rw [p3 i hi (by omega)] at hb; cases hb
  rw [cpP_lt]
  rcases Nat.lt_or_eq_of_le hle with h' | h'
  · exact .inl h'
  · refine .inr ⟨h', ?_⟩
    rcases Int.lt_or_eq_of_le c1 with h2 | h2
    · exact h2
    · exact absurd (riP_eq hq hp h2.symm (c := q.a) (d := q.b) (mtP_iff.2 fun i _ _ => rfl) (mtP_iff.2 c2)) hn

/-- Of two that cover a third one, the one ahead covers the other. -/
theorem ovP_two {w : Int} {y z x : Pf} (hy : riP w y = true) (hz : riP w z = true) (h1 : ovP y x = true) (h2 : ovP z x = true) (h : cpP y z < 0) : ovP y z = true := by
  obtain ⟨a1, a2⟩ := cvP_iff.1 (ovP_iff.1 h1).2
  obtain ⟨b1, b2⟩ := cvP_iff.1 (ovP_iff.1 h2).2
  have hne : z ≠ y := fun e => by rw [e, cpP_self] at h; omega
  by_cases hl : y.len ≤ z.len
  · exact ovP_iff.2 ⟨hne, cvP_iff.2 ⟨hl, fun i hi hi2 => by rw [a2 i hi hi2, b2 i hi (by omega)]⟩⟩
  · have := ovP_lt hz hy (ovP_iff.2 ⟨fun e => hne e.symm, cvP_iff.2 ⟨by omega, fun i hi hi2 => by rw [b2 i hi hi2, a2 i hi (by omega)]⟩⟩)
    have := cpP_trans h this
    rw [cpP_self] at this
    omega

/-- What covers a prefix. -/
def cvL (l : List Ro) (q : Pf) : List Ro := l.filter fun y => ovP y.p q

theorem mem_cvL {l : List Ro} {q : Pf} {x : Ro} : x ∈ cvL l q ↔ x ∈ l ∧ ovP x.p q = true := by
  unfold cvL; rw [List.mem_filter]

theorem cvL_chain {w : Int} {l : List Ro} (h : TB w l) (q : Pf) : IsCh (cvL l q) := by
  have hs : (cvL l q).Pairwise fun x y => cpP x.p y.p < 0 := h.sorted.filter _
  refine hs.imp_of_mem fun {a b} ha hb hab => ?_
  obtain ⟨a1, a2⟩ := mem_cvL.1 ha
  obtain ⟨b1, b2⟩ := mem_cvL.1 hb
  exact ovP_iff.1 (ovP_two (h.rip a1) (h.rip b1) a2 b2 hab)

theorem count_le_chR {w : Int} {l : List Ro} (h : TB w l) {x : Ro} (hx : x ∈ l) : ((cvL l x.p).length : Int) + 1 ≤ chR l := by
  have hc : IsCh (cvL l x.p ++ [x]) := by
    unfold IsCh
    rw [List.pairwise_append]
    refine ⟨cvL_chain h _, List.pairwise_singleton _ _, fun a ha b hb => ?_⟩
    obtain rfl := List.mem_singleton.1 hb
    exact ovP_iff.1 (mem_cvL.1 ha).2
  have := chR_upper (l := l) hc fun y hy => by
    rcases List.mem_append.1 hy with hy | hy
    · exact (mem_cvL.1 hy).1
    · rw [List.mem_singleton.1 hy]; exact hx
  rw [List.length_append] at this
  simpa using this

theorem chR_le_count {w : Int} {l : List Ro} (h : TB w l) {n : Int} (hn : 0 ≤ n) (hc : ∀ x ∈ l, ((cvL l x.p).length : Int) + 1 ≤ n) : chR l ≤ n := by
  obtain ⟨s, h1, h2, h3⟩ := chR_exists l
  rw [← h3]
  rcases List.eq_nil_or_concat s with rfl | ⟨t, x, rfl⟩
  · exact hn
  · rw [List.concat_eq_append] at *
    have hp := h1
    unfold IsCh at hp
    rw [List.pairwise_append] at hp
    obtain ⟨p1, _, p3⟩ := hp
    have hx : x ∈ l := h2 x (by simp)
    have tl : ∀ y ∈ t, y ∈ l := fun y hy => h2 y (by simp [hy])
    have ts : t.Pairwise fun a b => cpP a.p b.p < 0 := p1.imp_of_mem fun {a b} ha hb hab => ovP_lt (h.rip (tl a ha)) (h.rip (tl b hb)) (ovP_iff.2 hab)
    have e : t = (cvL l x.p).filter fun y => decide (y ∈ t) := tb_ext ts ((h.sorted.filter _).filter _) fun y => by
      rw [List.mem_filter, decide_eq_true_eq, mem_cvL]
      constructor
      · intro hy
        exact ⟨⟨tl y hy, ovP_iff.2 (p3 y hy x (by simp))⟩, hy⟩
      · intro hy
        exact hy.2
    have hl : t.length ≤ (cvL l x.p).length := by
      rw [e]; exact List.length_filter_le _ _
    have := hc x hx
    rw [List.length_append]
    simp only [List.length_cons, List.length_nil]
    omega

/-- What covers a table's route stands ahead of it. -/
theorem cvL_take {w : Int} {l : List Ro} (h : TB w l) {i : Nat} (hi : i < l.length) : cvL l (at' l i).p = cvL (l.take i) (at' l i).p := by
  have e : l = l.take i ++ l.drop i := (List.take_append_drop i l).symm
  have hn : cvL (l.drop i) (at' l i).p = [] := by
    unfold cvL
    rw [List.filter_eq_nil_iff]
    intro y hy ho
    have hy' : y ∈ l := List.mem_of_mem_drop hy
    have a := ovP_lt (h.rip hy') (h.rip (at_mem hi)) ho
    obtain ⟨k, hk, rfl⟩ := List.mem_iff_getElem.1 hy
    rw [List.length_drop] at hk
    rw [List.getElem_drop] at a
    have e2 : l[i + k] = at' l (i + k) := by have := at_get (show i + k < l.length by omega); rw [List.getElem?_eq_getElem (by omega)] at this; exact Option.some_inj.1 this
    rw [e2] at a
    rcases Nat.eq_zero_or_pos k with rfl | h0
    · rw [Nat.add_zero, cpP_self] at a; omega
    · have := cpP_trans a (h.at (show i < i + k by omega) (by omega))
      rw [cpP_self] at this; omega
  have key : ∀ m : List Ro, m = l.take i ++ l.drop i → cvL m (at' l i).p = cvL (l.take i) (at' l i).p := fun m hm => by
    rw [hm]
    have : cvL (l.take i ++ l.drop i) (at' l i).p = cvL (l.take i) (at' l i).p ++ cvL (l.drop i) (at' l i).p := List.filter_append _ _
    rw [this, hn, List.append_nil]
  exact key l e

/-- What stands between a prefix and one that it covers is covered, too. -/
theorem ovP_between {w : Int} {y m x : Pf} (hy : riP w y = true) (hm : riP w m = true) (h : ovP y x = true) (h1 : cpP y m < 0) (h2 : cpP m x < 0) : ovP y m = true := by
  obtain ⟨a1, a2⟩ := cvP_iff.1 (ovP_iff.1 h).2
  obtain ⟨_, y1, y2, y3⟩ := riP_iff.1 hy
  obtain ⟨_, m1, m2, m3⟩ := riP_iff.1 hm
  have hne : m ≠ y := fun e => by rw [e, cpP_self] at h1; omega
  have ym : V y.a y.b ≤ V m.a m.b := by rcases cpP_lt.1 h1 with h | h <;> omega
  have mx : V m.a m.b ≤ V x.a x.b := by rcases cpP_lt.1 h2 with h | h <;> omega
  -- bit for bit, up to y's length
  have bits : ∀ n : Nat, n ≤ 128 → (n : Int) ≤ y.len → ∀ i, i < n → bitAt y.a y.b i = bitAt m.a m.b i := by
    intro n
    induction n with
    | zero => intro _ _ i hi; omega
    | succ n ih =>
      intro hn hl i hi
      have ih' := ih (by omega) (by omega)
      rcases Nat.lt_or_eq_of_le (Nat.le_of_lt_succ hi) with h' | rfl
      · exact ih' i h'
      · have xy : bitAt y.a y.b i = bitAt x.a x.b i := a2 i (by omega) (by omega)
        cases hb : bitAt m.a m.b i with
        | true =>
          cases hc : bitAt y.a y.b i with
          | true => rfl
          | false =>
            have := V_less (a := x.a) (b := x.b) (c := m.a) (d := m.b) (n := i) (by omega) (fun k hk => by rw [← a2 k (by omega) (by omega)]; exact ih' k hk) (by rw [← xy]; exact hc) hb
            omega
        | false =>
          cases hc : bitAt y.a y.b i with
          | false => rfl
          | true =>
            have := V_less (a := m.a) (b := m.b) (c := y.a) (d := y.b) (n := i) (by omega) (fun k hk => (ih' k hk).symm) hb hc
            omega
  have all : ∀ i : Nat, i < 128 → (i : Int) < y.len → bitAt y.a y.b i = bitAt m.a m.b i := fun i hi hl => bits (i + 1) (by omega) (by omega) i (by omega)
  refine ovP_iff.2 ⟨hne, cvP_iff.2 ⟨?_, all⟩⟩
  by_cases hl : y.len ≤ m.len
  · exact hl
  · exfalso
    have e : V m.a m.b ≤ V y.a y.b := V_sub fun i hi hb => by
      by_cases h' : (i : Int) < m.len
      · rw [all i hi (by omega)]; exact hb
      · rw [m3 i hi (by omega)] at hb; cases hb
    rcases cpP_lt.1 h1 with h' | h'
    · omega
    · omega

/-- What covers a table's route, but the one ahead of it, covers that one. -/
theorem cvL_step {w : Int} {l : List Ro} (h : TB w l) {i : Nat} (hi : i + 1 < l.length) : cvL l (at' l (i + 1)).p = (cvL l (at' l i).p ++ [at' l i]).filter fun y => ovP y.p (at' l (i + 1)).p := by
  have hi' : i < l.length := by omega
  have hlt := h.at (show i < i + 1 by omega) hi
  have hs : (cvL l (at' l i).p ++ [at' l i]).Pairwise fun x y => cpP x.p y.p < 0 := by
    rw [List.pairwise_append]
    refine ⟨h.sorted.filter _, List.pairwise_singleton _ _, fun a ha b hb => ?_⟩
    obtain rfl := List.mem_singleton.1 hb
    obtain ⟨a1, a2⟩ := mem_cvL.1 ha
    exact ovP_lt (h.rip a1) (h.rip (at_mem hi')) a2
  refine tb_ext (h.sorted.filter _) (hs.filter _) fun y => ?_
  rw [mem_cvL, List.mem_filter, List.mem_append, mem_cvL, List.mem_singleton]
  constructor
  · rintro ⟨hy, ho⟩
    refine ⟨?_, ho⟩
    by_cases e : y = at' l i
    · exact .inr e
    · refine .inl ⟨hy, ?_⟩
      obtain ⟨k, hk, rfl⟩ := mem_at hy
      have a := ovP_lt (h.rip hy) (h.rip (at_mem hi)) ho
      have hk1 : k < i := by
        rcases Nat.lt_trichotomy k i with h' | h' | h'
        · exact h'
        · exact absurd (by rw [h']) e
        · exfalso
          rcases Nat.lt_or_eq_of_le (show i + 1 ≤ k from h') with h'' | h''
          · have := cpP_trans a (h.at h'' hk)
            rw [cpP_self] at this; omega
          · rw [← h'', cpP_self] at a; omega
      exact ovP_between (h.rip hy) (h.rip (at_mem hi')) ho (h.at hk1 hi') hlt
  · rintro ⟨hy | rfl, ho⟩
    · exact ⟨hy.1, ho⟩
    · exact ⟨at_mem hi', ho⟩

/- The best route and the nearest one, by a walk over a table, or by its order. -/

/-- Of two that match an address, the one ahead is the shorter one. -/
theorem mt_order {w : Int} {y z : Pf} {c d : BitVec 64} (hy : riP w y = true) (hz : riP w z = true) (h1 : mtP y c d = true) (h2 : mtP z c d = true) (h : cpP y z < 0) : y.len < z.len := by
  by_cases hl : y.len < z.len
  · exact hl
  · exfalso
    have e : z ≠ y := fun e => by rw [e, cpP_self] at h; omega
    have := ovP_lt hz hy (ovP_iff.2 ⟨fun e' => e e'.symm, cvP_iff.2 ⟨by omega, fun i hi hi2 => by rw [mtP_iff.1 h2 i hi hi2, mtP_iff.1 h1 i hi (by omega)]⟩⟩)
    have := cpP_trans h this
    rw [cpP_self] at this
    omega

theorem bsR_noneT {w : Int} {l : List Ro} (h : TB w l) {c d : BitVec 64} (hl : ∀ j, j < l.length → mtP (at' l j).p c d = false) : bsR l c d = none :=
  bsR_none fun j hj => by rw [okR_tb h (at_mem hj)]; exact hl j hj

/-- The best one, by any walk that keeps the longest. -/
theorem bsR_scan {w : Int} {l : List Ro} (h : TB w l) {c d : BitVec 64} {r : Int} (hr : FbX (fun x => mtP x.p c d) lnR l l.length r) : bsR l c d = if r < 0 then none else some (at' l r.toNat) := by
  rcases hr with ⟨rfl, h2⟩ | ⟨i, rfl, hi, h1, h2⟩
  · rw [if_pos (by omega), bsR_noneT h h2]
  · rw [if_neg (by omega)]
    refine (bsR_max h (at_mem hi) h1 fun y hy hm => ?_).trans rfl
    obtain ⟨j, hj, rfl⟩ := mem_at hy
    exact (h2 j hj hm).1

/-- To cover, and not to be it: to match its address, and to be shorter. -/
theorem ovP_short {w w' : Int} {p q : Pf} (hp : riP w p = true) (hq : riP w' q = true) : ovP p q = true ↔ p.len < q.len ∧ mtP p q.a q.b = true := by
  rw [ovP_iff, cvP_iff, mtP_iff]
  constructor
  · rintro ⟨h1, h2, h3⟩
    refine ⟨?_, h3⟩
    rcases Int.lt_or_eq_of_le h2 with h | h
    · exact h
    · exact absurd (riP_eq hq hp h.symm (c := q.a) (d := q.b) (mtP_iff.2 fun i _ _ => rfl) (mtP_iff.2 h3)) h1
  · rintro ⟨h1, h2⟩
    exact ⟨fun e => by rw [e] at h1; omega, Int.le_of_lt h1, h2⟩

theorem mem_short {l : List Ro} {n : Int} {x : Ro} : x ∈ l.filter (fun x => decide (x.p.len < n)) ↔ x ∈ l ∧ x.p.len < n := by
  rw [List.mem_filter, decide_eq_true_eq]

theorem cvrR_none {w w' : Int} {l : List Ro} (h : TB w l) {p : Pf} (hp : riP w' p = true) (hl : ∀ j, j < l.length → ovP (at' l j).p p = false) : cvrR l p = none := by
  rcases bsR_tb (shorter_tb h p.len) p.a p.b with ⟨h1, _⟩ | ⟨x, hx, _, h2, _⟩
  · exact h1
  · obtain ⟨a, b⟩ := mem_short.1 hx
    obtain ⟨j, hj, rfl⟩ := mem_at a
    have := (ovP_short (h.rip a) hp).2 ⟨b, h2⟩
    rw [hl j hj] at this
    cases this

theorem cvrR_max {w w' : Int} {l : List Ro} (h : TB w l) {p : Pf} (hp : riP w' p = true) {x : Ro} (hx : x ∈ l) (ho : ovP x.p p = true) (hm : ∀ y ∈ l, ovP y.p p = true → y.p.len ≤ x.p.len) : cvrR l p = some x := by
  obtain ⟨a, b⟩ := (ovP_short (h.rip hx) hp).1 ho
  exact bsR_max (shorter_tb h p.len) (mem_short.2 ⟨hx, a⟩) b fun y hy hy2 => by
    obtain ⟨c, d⟩ := mem_short.1 hy
    exact hm y c ((ovP_short (h.rip c) hp).2 ⟨d, hy2⟩)

/-- The nearest one that covers, by any walk that keeps the longest; by the order. -/
theorem cvrR_scan {w w' : Int} {l : List Ro} (h : TB w l) {p : Pf} (hp : riP w' p = true) {r : Int} (hr : FbX (fun x => ovP x.p p) lnR l l.length r) : cvrR l p = if r < 0 then none else some (at' l r.toNat) := by
  rcases hr with ⟨rfl, h2⟩ | ⟨i, rfl, hi, h1, h2⟩
  · rw [if_pos (by omega), cvrR_none h hp h2]
  · rw [if_neg (by omega)]
    refine (cvrR_max h hp (at_mem hi) h1 fun y hy hm => ?_).trans rfl
    obtain ⟨j, hj, rfl⟩ := mem_at hy
    exact (h2 j hj hm).1

/-- The stack of those that are open: what covers a table's route, and it. -/
def opR (l : List Ro) (i : Nat) : List Ro := cvL l (at' l i).p ++ [at' l i]

theorem opR_step {w : Int} {l : List Ro} (h : TB w l) {i : Nat} (hi : i + 1 < l.length) : opR l (i + 1) = (opR l i).filter (fun y => ovP y.p (at' l (i + 1)).p) ++ [at' l (i + 1)] := by
  unfold opR
  rw [cvL_step h hi]

theorem opR_zero {w : Int} {l : List Ro} (h : TB w l) (hi : 0 < l.length) : opR l 0 = [at' l 0] := by
  unfold opR
  rw [cvL_take h hi]
  rfl

/-- Those that stay open are the first ones. -/
theorem opR_prefix {w : Int} {l : List Ro} (h : TB w l) {i : Nat} (hi : i + 1 < l.length) {a b : Nat} (hab : a < b) (hb : b < (opR l i).length) (ho : ovP (at' (opR l i) b).p (at' l (i + 1)).p = true) : ovP (at' (opR l i) a).p (at' l (i + 1)).p = true := by
  have hi' : i < l.length := by omega
  have hc : IsCh (opR l i) := by
    unfold opR IsCh
    rw [List.pairwise_append]
    refine ⟨cvL_chain h _, List.pairwise_singleton _ _, fun a ha b hb => ?_⟩
    obtain rfl := List.mem_singleton.1 hb
    exact ovP_iff.1 (mem_cvL.1 ha).2
  have ha : a < (opR l i).length := by omega
  have := List.pairwise_iff_getElem.1 hc a b ha hb hab
  have e1 : (opR l i)[a] = at' (opR l i) a := by have := at_get ha; rw [List.getElem?_eq_getElem ha] at this; exact Option.some_inj.1 this
  have e2 : (opR l i)[b] = at' (opR l i) b := by have := at_get hb; rw [List.getElem?_eq_getElem hb] at this; exact Option.some_inj.1 this
  rw [e1, e2] at this
  obtain ⟨n1, n2⟩ := this
  obtain ⟨o1, o2⟩ := ovP_iff.1 ho
  obtain ⟨c1, c2⟩ := cvP_iff.1 n2
  obtain ⟨d1, d2⟩ := cvP_iff.1 o2
  have mem : ∀ k, k < (opR l i).length → at' (opR l i) k ∈ l := fun k hk => by
    have all : ∀ y, y ∈ opR l i → y ∈ l := fun y hy => by
      unfold opR at hy
      rcases List.mem_append.1 hy with h' | h'
      · exact (mem_cvL.1 h').1
      · rw [List.mem_singleton.1 h']; exact at_mem hi'
    exact all _ (at_mem hk)
  have l1 := ovP_lt (h.rip (mem a ha)) (h.rip (mem b hb)) (ovP_iff.2 ⟨n1, n2⟩)
  have l2 := ovP_lt (h.rip (mem b hb)) (h.rip (at_mem hi)) ho
  refine ovP_iff.2 ⟨fun e => ?_, cvP_iff.2 ⟨by omega, fun k hk hk2 => by rw [c2 k hk hk2, d2 k hk (by omega)]⟩⟩
  rw [e] at l2
  have := cpP_trans l1 l2
  rw [cpP_self] at this
  omega

/-- The most that were open at once. -/
theorem chR_open {w : Int} {l : List Ro} (h : TB w l) {n : Int} (h0 : 0 ≤ n) (h1 : ∀ i, i < l.length → ((opR l i).length : Int) ≤ n) (h2 : n = 0 ∨ ∃ i, i < l.length ∧ n = ((opR l i).length : Int)) : chR l = n := by
  have len : ∀ i, ((opR l i).length : Int) = ((cvL l (at' l i).p).length : Int) + 1 := fun i => by
    unfold opR
    rw [List.length_append]; simp
  have a : chR l ≤ n := chR_le_count h h0 fun x hx => by
    obtain ⟨i, hi, rfl⟩ := mem_at hx
    rw [← len]; exact h1 i hi
  rcases h2 with rfl | ⟨i, hi, rfl⟩
  · obtain ⟨s, _, _, e⟩ := chR_exists l
    omega
  · have := count_le_chR h (at_mem hi)
    rw [← len] at this
    omega

end Go.Sx.M
end

section
/-
  Layer 6: where a prefix is in a table, or would be: plain mathematics.
-/
namespace Go.Sx.M
open Go.Proofs.Ytfcjghgfanaipaa.L1

/-- How many of a table stand ahead of a prefix's place. -/
def plN (l : List Ro) (p : Pf) : Nat := (l.takeWhile fun x => decide (cpP x.p p < 0)).length

/-- It is that place. -/
def PlN (l : List Ro) (p : Pf) (i : Nat) : Prop := i ≤ l.length ∧ (∀ t, t < i → cpP (at' l t).p p < 0) ∧ (i < l.length → ¬ cpP (at' l i).p p < 0)

theorem plN_is {p : Pf} : ∀ {l : List Ro} {i : Nat}, PlN l p i → plN l p = i
  | [], i, ⟨h, _, _⟩ => by
    have : i = 0 := by simpa using h
    subst this; rfl
  | y :: l, 0, ⟨_, _, h⟩ => by
    have h0 : ¬ cpP y.p p < 0 := h (by simp)
    unfold plN
    rw [List.takeWhile_cons_of_neg (by simpa using h0)]
    rfl
  | y :: l, i + 1, ⟨h1, h2, h3⟩ => by
    have h0 : cpP y.p p < 0 := h2 0 (by omega)
    have ih : plN l p = i := plN_is ⟨by simpa using h1, fun t ht => h2 (t + 1) (by omega), fun hi => h3 (by simpa using hi)⟩
    unfold plN at ih ⊢
    rw [List.takeWhile_cons_of_pos (by simpa using h0), List.length_cons, ih]

theorem PlN_plN (p : Pf) : ∀ l : List Ro, PlN l p (plN l p)
  | [] => ⟨Nat.le_refl _, fun t ht => absurd ht (Nat.not_lt_zero _), fun h => absurd h (Nat.not_lt_zero _)⟩
  | y :: l => by
    have ih := PlN_plN p l
    by_cases h0 : cpP y.p p < 0
    · have e : plN (y :: l) p = plN l p + 1 := by
        unfold plN; rw [List.takeWhile_cons_of_pos (by simpa using h0), List.length_cons]
      rw [e]
      obtain ⟨h1, h2, h3⟩ := ih
      refine ⟨by simpa using h1, fun t ht => ?_, fun hi => h3 (by simpa using hi)⟩
      cases t with
      | zero => exact h0
      | succ t => exact h2 t (by omega)
    · have e : plN (y :: l) p = 0 := by
        unfold plN; rw [List.takeWhile_cons_of_neg (by simpa using h0)]; rfl
      rw [e]
      exact ⟨Nat.zero_le _, fun t ht => absurd ht (Nat.not_lt_zero _), fun _ => h0⟩

theorem lt_down {w : Int} {l : List Ro} (h : TB w l) {p : Pf} {s t : Nat} (hst : s ≤ t) (ht : t < l.length) (hc : cpP (at' l t).p p < 0) : cpP (at' l s).p p < 0 := by
  rcases Nat.lt_or_eq_of_le hst with h' | rfl
  · exact cpP_trans (h.at h' ht) hc
  · exact hc

theorem ge_up {w : Int} {l : List Ro} (h : TB w l) {p : Pf} {s t : Nat} (hst : s ≤ t) (ht : t < l.length) (hc : ¬ cpP (at' l s).p p < 0) : ¬ cpP (at' l t).p p < 0 := fun h' => hc (lt_down h hst ht h')

/-- The route at a prefix's place is its own, or it has none. -/
theorem fd_place {w : Int} {l : List Ro} (h : TB w l) {p : Pf} {i : Nat} (hp : PlN l p i) : (fdR l p = none ∧ ∀ x ∈ l, x.p ≠ p) ∧ (i < l.length → cpP (at' l i).p p ≠ 0) ∨ i < l.length ∧ cpP (at' l i).p p = 0 ∧ (at' l i).p = p ∧ fdR l p = some (at' l i) := by
  obtain ⟨h1, h2, h3⟩ := hp
  by_cases hc : i < l.length ∧ cpP (at' l i).p p = 0
  · have e := cpP_zero.1 hc.2
    refine .inr ⟨hc.1, hc.2, e, ?_⟩
    have := fdR_tb h (at_mem hc.1)
    rw [e] at this
    exact this
  · have hne : ∀ x ∈ l, x.p ≠ p := by
      intro x hx
      obtain ⟨j, hj, rfl⟩ := mem_at hx
      intro e
      rcases Nat.lt_trichotomy j i with h' | rfl | h'
      · have := h2 j h'; rw [e, cpP_self] at this; omega
      · exact hc ⟨hj, by rw [e, cpP_self]⟩
      · have a := h.at h' hj
        have b := h3 (by omega)
        rw [e] at a
        exact b a
    refine .inl ⟨⟨?_, hne⟩, fun hi hz => hc ⟨hi, hz⟩⟩
    rcases fdR_cases l p with h' | ⟨x, hx, e, _⟩
    · exact h'.1
    · exact absurd e (hne x hx)

theorem fd_some {w : Int} {l : List Ro} (h : TB w l) {p : Pf} (hs : (fdR l p).isSome = true) : plN l p < l.length ∧ fdR l p = some (at' l (plN l p)) ∧ (at' l (plN l p)).p = p := by
  rcases fd_place h (PlN_plN p l) with ⟨⟨h1, _⟩, _⟩ | ⟨h1, _, h2, h3⟩
  · rw [h1] at hs; cases hs
  · exact ⟨h1, h3, h2⟩

theorem mem_drop {l : List Ro} {n : Nat} {x : Ro} (hx : x ∈ l.drop n) : ∃ j, n ≤ j ∧ j < l.length ∧ at' l j = x := by
  obtain ⟨k, hk, rfl⟩ := List.mem_iff_getElem.1 hx
  rw [List.length_drop] at hk
  refine ⟨n + k, by omega, by omega, ?_⟩
  rw [List.getElem_drop]
  have := at_get (show n + k < l.length by omega)
  rw [List.getElem?_eq_getElem (by omega)] at this
  exact (Option.some_inj.1 this).symm

theorem at_mem_take {l : List Ro} {n j : Nat} (hj : j < n) (hl : j < l.length) : at' l j ∈ l.take n := by
  have : (l.take n)[j]? = some (at' l j) := by rw [List.getElem?_take, if_pos hj, at_get hl]
  exact List.mem_of_getElem? this

theorem at_mem_drop {l : List Ro} {n j : Nat} (hj : n ≤ j) (hl : j < l.length) : at' l j ∈ l.drop n := by
  have : (l.drop n)[j - n]? = some (at' l j) := by rw [List.getElem?_drop, show n + (j - n) = j by omega, at_get hl]
  exact List.mem_of_getElem? this

/-- What is behind a prefix's place. -/
def bhN (l : List Ro) (p : Pf) : Nat := if (fdR l p).isSome then plN l p + 1 else plN l p

theorem mem_around {w : Int} {l : List Ro} (h : TB w l) (p : Pf) : (∀ x ∈ l.take (plN l p), cpP x.p p < 0) ∧ (∀ x ∈ l.drop (bhN l p), cpP p x.p < 0) ∧ ∀ x, (x ∈ l ∧ x.p ≠ p) ↔ (x ∈ l.take (plN l p) ∨ x ∈ l.drop (bhN l p)) := by
  have hp := PlN_plN p l
  obtain ⟨p1, p2, p3⟩ := hp
  have ht : ∀ x ∈ l.take (plN l p), cpP x.p p < 0 := fun x hx => by
    obtain ⟨j, hj, hl, rfl⟩ := mem_take hx
    exact p2 j hj
  have hd : ∀ x ∈ l.drop (bhN l p), cpP p x.p < 0 := fun x hx => by
    obtain ⟨j, hj, hl, rfl⟩ := mem_drop hx
    rcases fd_place h (PlN_plN p l) with ⟨⟨h1, h2⟩, _⟩ | ⟨h1, _, h2, h3⟩
    · have e : bhN l p = plN l p := by unfold bhN; rw [h1]; rfl
      rw [e] at hj
      have a := ge_up h hj hl (p3 (by omega))
      have b : cpP (at' l j).p p ≠ 0 := fun e => h2 _ (at_mem hl) (cpP_zero.1 e)
      exact cpP_gt.1 (by omega)
    · have e : bhN l p = plN l p + 1 := by unfold bhN; rw [h3]; rfl
      rw [e] at hj
      have := h.at (show plN l p < j by omega) hl
      rw [h2] at this
      exact this
  refine ⟨ht, hd, fun x => ⟨fun ⟨hx, hne⟩ => ?_, fun hx => ?_⟩⟩
  · obtain ⟨j, hj, rfl⟩ := mem_at hx
    by_cases hlt : j < plN l p
    · exact .inl (at_mem_take hlt hj)
    · refine .inr (at_mem_drop ?_ hj)
      unfold bhN
      split
      · rename_i hs
        obtain ⟨_, _, e⟩ := fd_some h hs
        rcases Nat.lt_or_eq_of_le (Nat.le_of_not_lt hlt) with h' | h'
        · omega
        · rw [← h'] at hne; exact absurd e hne
      · omega
  · rcases hx with hx | hx
    · refine ⟨List.mem_of_mem_take hx, fun e => ?_⟩
      have := ht x hx
      rw [e, cpP_self] at this; omega
    · refine ⟨List.mem_of_mem_drop hx, fun e => ?_⟩
      have := hd x hx
      rw [e, cpP_self] at this; omega

theorem drR_place {w : Int} {l : List Ro} (h : TB w l) (p : Pf) : drR l p = l.take (plN l p) ++ l.drop (bhN l p) := by
  obtain ⟨h1, h2, h3⟩ := mem_around h p
  refine tb_ext (drR_tb h p).sorted ?_ fun x => ?_
  · rw [List.pairwise_append]
    exact ⟨h.sorted.sublist (List.take_sublist _ _), h.sorted.sublist (List.drop_sublist _ _), fun a ha b hb => cpP_trans (h1 a ha) (h2 b hb)⟩
  · rw [mem_drR, List.mem_append]
    exact h3 x

theorem ptR_place {w : Int} {l : List Ro} (h : TB w l) (r : Ro) : ptR l r = l.take (plN l r.p) ++ [r] ++ l.drop (bhN l r.p) := by
  obtain ⟨h1, h2, h3⟩ := mem_around h r.p
  refine tb_ext (inR_sorted (drR_tb h _).sorted fun x hx => (mem_drR.1 hx).2) ?_ fun x => ?_
  · rw [List.pairwise_append, List.pairwise_append]
    refine ⟨⟨h.sorted.sublist (List.take_sublist _ _), List.pairwise_singleton _ _, fun a ha b hb => ?_⟩, h.sorted.sublist (List.drop_sublist _ _), fun a ha b hb => ?_⟩
    · rw [List.mem_singleton.1 hb]; exact h1 a ha
    · rcases List.mem_append.1 ha with ha | ha
      · exact cpP_trans (h1 a ha) (h2 b hb)
      · rw [List.mem_singleton.1 ha]; exact h2 b hb
  · have := h3 x
    rw [mem_ptR, List.mem_append, List.mem_append, List.mem_singleton]
    constructor
    · rintro (h | h)
      · exact .inl (.inr h)
      · rcases this.1 h with h | h
        · exact .inl (.inl h)
        · exact .inr h
    · rintro ((h | h) | h)
      · exact .inr (this.2 (.inl h))
      · exact .inl h
      · exact .inr (this.2 (.inr h))

/-- Those that are open ahead of a step. -/
def skR (l : List Ro) (i : Nat) : List Pf := if i = 0 then [] else (opR l (i - 1)).map (·.p)

theorem opR_le {w : Int} {l : List Ro} (h : TB w l) {i : Nat} (hi : i < l.length) : (opR l i).length ≤ i + 1 := by
  unfold opR
  rw [cvL_take h hi, List.length_append]
  have : (cvL (l.take i) (at' l i).p).length ≤ (l.take i).length := List.length_filter_le _ _
  rw [List.length_take] at this
  simp only [List.length_cons, List.length_nil]
  omega

theorem skR_le {w : Int} {l : List Ro} (h : TB w l) {i : Nat} (hi : i ≤ l.length) : (skR l i).length ≤ i := by
  unfold skR
  split
  · simp
  · rw [List.length_map]
    have := opR_le h (show i - 1 < l.length by omega)
    omega

/-- A table's prefix covers another one's, that is not it. -/
theorem cv_ov {w : Int} {l : List Ro} (h : TB w l) {i : Nat} (hi : i < l.length) {q : Pf} (hq : ∃ j, j < i ∧ (at' l j).p = q) : cvP q (at' l i).p = ovP q (at' l i).p := by
  obtain ⟨j, hj, rfl⟩ := hq
  have hne : (at' l i).p ≠ (at' l j).p := fun e => by
    have := h.at hj hi
    rw [e, cpP_self] at this; omega
  unfold ovP
  rw [decide_eq_false hne]
  simp

theorem skR_mem {w : Int} {l : List Ro} (h : TB w l) {i : Nat} (hi : i < l.length) {q : Pf} (hq : q ∈ skR l i) : ∃ j, j < i ∧ (at' l j).p = q := by
  unfold skR at hq
  split at hq
  · cases hq
  · obtain ⟨y, hy, rfl⟩ := List.mem_map.1 hq
    unfold opR at hy
    rcases List.mem_append.1 hy with hy | hy
    · rw [cvL_take h (show i - 1 < l.length by omega)] at hy
      obtain ⟨j, hj, _, rfl⟩ := mem_take (mem_cvL.1 hy).1
      exact ⟨j, by omega, rfl⟩
    · rw [List.mem_singleton.1 hy]
      exact ⟨i - 1, by omega, rfl⟩

/-- A filter whose hits come first. -/
theorem filter_take {T : Type} [Inhabited T] {f : T → Bool} : ∀ {m : List T} {k : Nat}, k ≤ m.length → (∀ t, t < k → f (at' m t) = true) → (∀ t, k ≤ t → t < m.length → f (at' m t) = false) → m.filter f = m.take k
  | [], k, h, _, _ => by simp
  | y :: m, 0, _, _, h3 => by
    rw [List.take_zero, List.filter_eq_nil_iff]
    intro x hx
    obtain ⟨j, hj, rfl⟩ := mem_at hx
    rw [h3 j (Nat.zero_le _) hj]; simp
  | y :: m, k + 1, h1, h2, h3 => by
    have h0 : f y = true := h2 0 (by omega)
    rw [List.filter_cons_of_pos h0, List.take_succ_cons, filter_take (by simpa using h1) (fun t ht => h2 (t + 1) (by omega)) fun t ht hl => h3 (t + 1) (by omega) (by simpa using hl)]

/-- Behind the steps back, with the step's own. -/
theorem skR_step {w : Int} {l : List Ro} (h : TB w l) {i : Nat} (hi : i < l.length) {k : Nat} (hk : k ≤ (skR l i).length) (h1 : ∀ t, k ≤ t → t < (skR l i).length → cvP (at' (skR l i) t) (at' l i).p = false) (h2 : 0 < k → cvP (at' (skR l i) (k - 1)) (at' l i).p = true) :
    (skR l i).take k ++ [(at' l i).p] = skR l (i + 1) := by
  have e1 : skR l (i + 1) = (opR l i).map (·.p) := by unfold skR; rw [if_neg (by omega), Nat.add_sub_cancel]
  rw [e1]
  rcases Nat.eq_zero_or_pos i with rfl | h0
  · have : skR l 0 = [] := rfl
    rw [this, List.take_nil, opR_zero h hi]
    rfl
  · obtain ⟨n, rfl⟩ : ∃ n, i = n + 1 := ⟨i - 1, by omega⟩
    have e2 : skR l (n + 1) = (opR l n).map (·.p) := by unfold skR; rw [if_neg (by omega), Nat.add_sub_cancel]
    have hq : ∀ t, t < (opR l n).length → cvP (at' (skR l (n + 1)) t) (at' l (n + 1)).p = ovP (at' (opR l n) t).p (at' l (n + 1)).p := fun t ht => by
      have hm : at' (skR l (n + 1)) t = (at' (opR l n) t).p := by
        rw [e2]
        have a : ((opR l n).map (·.p))[t]? = some (at' ((opR l n).map (·.p)) t) := at_get (by rw [List.length_map]; exact ht)
        rw [List.getElem?_map, at_get ht] at a
        exact (Option.some_inj.1 a).symm
      rw [cv_ov h hi (skR_mem h hi (at_mem (by rw [e2, List.length_map]; exact ht))), hm]
    have hlen : (skR l (n + 1)).length = (opR l n).length := by rw [e2, List.length_map]
    rw [hlen] at hk h1
    rw [opR_step h hi, e2, List.map_append, ← List.map_take]
    congr 2
    refine (filter_take hk (fun t ht => ?_) fun t ht hl => ?_).symm
    · have hl : ovP (at' (opR l n) (k - 1)).p (at' l (n + 1)).p = true := by rw [← hq _ (by omega)]; exact h2 (by omega)
      rcases Nat.lt_or_eq_of_le (show t ≤ k - 1 by omega) with h' | rfl
      · exact opR_prefix h hi h' (by omega) hl
      · exact hl
    · rw [← hq _ hl]; exact h1 t ht hl

end Go.Sx.M
end

section
/-
  Layer 6: contracts of the program's calls: Right, Table, the place of a prefix, Find, Drop, Put.
-/
namespace Go.Proofs.Ytfcjghgfanaipaa.L1
open Go.Sx Go.Sx.M

noncomputable def grow6Spec : Sx.Spec := growSpec 48 4 32

theorem grow6_ok : SpecOK Try.prog 54 grow6Spec :=
  growSpec_ok Try.laysGrow_f54 rfl rfl (by kernel_rfl) noNG Try.func54 (by kernel_rfl)
def pfamF : List Arg → (Res → Prop) → Prop
  | [.v (.int .i64 w)], R => R (.v (.bool (decide (w = 32 ∨ w = 128))))
  | _, _ => False

def placeF : List Arg → (Res → Prop) → Prop
  | [.row r_l, .v (.agg [.w64 a, .w64 b, .int .i64 k])], R => r_l = (deR r_l).map roE ∧ tbR 128 (deR r_l) = true ∧ R (.v (.tuple [.int .i64 (plN (deR r_l) ⟨a, b, k⟩), .bool (fdR (deR r_l) ⟨a, b, k⟩).isSome]))
  | _, _ => False

/-- The program's Table: the state of its loop. -/
def gtSt (l : List Ro) (w : Int) (p : Nat) : St := ⟨[.int .i64 w, .vsl 0 0 (l.map roE).length, .any, .any, .any, .any, .any, .any, .any, .any, .any, .any, .any, .any, .any, .vsl 0 0 (l.map roE).length, .int .i64 (l.map roE).length, .int .i64 p, .any, .any, .any, .any, .any, .any, .any, .any, .any, .any, .any, .any, .any, .any, .any, .any, .any, .any, .any, .any, .any, .any, .any, .any, .any], [some ⟨false, 48, 4, true, l.map roE⟩]⟩
def gtM0 : Modes := ⟨[1, 1, 0, 0, 0, 0, 0, 0, 0, 0, 0, 0, 0, 0, 0, 1, 1, 2, 0, 0, 0, 0, 0, 0, 0, 0, 0, 0, 0, 0, 0, 0, 0, 0, 0, 0, 0, 0, 0, 0, 0, 0, 0], [], [], [], []⟩
def gtM : Modes := ⟨[1, 1, 0, 0, 0, 0, 0, 0, 0, 0, 0, 0, 0, 0, 0, 1, 1, 1, 0, 0, 0, 0, 0, 0, 0, 0, 0, 0, 0, 0, 0, 0, 0, 0, 0, 0, 0, 0, 0, 0, 0, 0, 0], [], [], [], []⟩
def gtM' : Modes := ⟨[0, 0, 0, 0, 2, 0, 0, 0, 0, 0, 0, 0, 0, 0, 0, 0, 0, 0, 0, 0, 0, 0, 0, 0, 0, 0, 0, 0, 0, 0, 0, 0, 0, 0, 0, 0, 0, 0, 0, 0, 0, 0, 0], [], [], [], []⟩
def gtH (l : List Ro) (w : Int) : List Hint := [.fork [] [.fork [] [.linv _ 0 (gtSt l w) (rtI l w) (fun p => l.length + 1 - p) gtM0 gtM gtM' (fun _ => []) fun p =>
  [.fork [.dy, .cell (roE (at' l p)), .fork [] [.fork [.nw, .dy, .cell (pfE (at' l (p - 1)).p), .fork [] [.nw]] [.nw]]] []]]]]

def plFn : AV := .func (.func 56) [] []

/-- The state of the search's loop. -/
def plSt (l : List Ro) (a b : BitVec 64) (k : Int) (p : Nat × Nat) : St :=
  ⟨[.vsl 0 0 (l.map roE).length, .any, plFn, .any, .ptr 2 0 0 true, .any, .any, .any, .int .i64 (l.map roE).length, .int .i64 p.1, .int .i64 p.2, .any, .any, .any, .any, .any, .any, .any, .any, .any, .any, .any, .any, .any, .any, .any, .any, .any, .any, .any, .any, .any, .any, .any, .any, .any, .any, .any, .any, .any, .any, .any, .any, .any, .any, .any, .any, .any, .any], [some ⟨false, 48, 4, true, l.map roE⟩, some ⟨true, 27, 3, true, [.agg [.w64 a, .w64 b, .int .i64 k]]⟩, some ⟨true, 27, 3, true, [.agg [.w64 a, .w64 b, .int .i64 k]]⟩]⟩
def plM0 : Modes := ⟨[1, 0, 1, 0, 1, 0, 0, 0, 1, 2, 2, 0, 0, 0, 0, 0, 0, 0, 0, 0, 0, 0, 0, 0, 0, 0, 0, 0, 0, 0, 0, 0, 0, 0, 0, 0, 0, 0, 0, 0, 0, 0, 0, 0, 0, 0, 0, 0, 0], [], [], [], []⟩
def plM : Modes := ⟨[1, 0, 1, 0, 1, 0, 0, 0, 1, 1, 1, 0, 0, 0, 0, 0, 0, 0, 0, 0, 0, 0, 0, 0, 0, 0, 0, 0, 0, 0, 0, 0, 0, 0, 0, 0, 0, 0, 0, 0, 0, 0, 0, 0, 0, 0, 0, 0, 0], [], [], [], []⟩
def plI (l : List Ro) (q : Pf) (p : Nat × Nat) : Prop := p.1 ≤ p.2 ∧ p.2 ≤ l.length ∧ (∀ t, t < p.1 → cpP (at' l t).p q < 0) ∧ ∀ t, p.2 ≤ t → t < l.length → ¬ cpP (at' l t).p q < 0
def plH (l : List Ro) (a b : BitVec 64) (k : Int) : List Hint := [.linv (Nat × Nat) (0, (l.map roE).length) (plSt l a b k) (plI l ⟨a, b, k⟩) (fun p => p.2 - p.1) plM0 plM plM (fun p => [.fork [.dy, .cell (roE (at' l p.1))] []]) fun p =>
  [.fork [.nw, .ix ((p.1 + p.2) / 2), .cell (roE (at' l ((p.1 + p.2) / 2))), .fork [.nw] []] []]]

noncomputable def gright6Cs : List (FuncId × Sx.Spec) := [(23, genSpec [none, none] rightF)]

theorem gright6_run (w : Int) (a b : BitVec 64) (k j : Int) (r : AV) : run gright6Cs Try.prog 47 [.int .i64 w, .agg [.w64 a, .w64 b, .int .i64 k, .int .i64 j]] [] [.fork [.fork [] []] []] (yields (.v r)) =
    ((rightB w a b k = true → (Decidable.decide ((1 : Int) ≤ j) = true → AV.bool (Decidable.decide (j ≤ (255 : Int))) = r) ∧ (Decidable.decide ((1 : Int) ≤ j) = false → AV.bool false = r)) ∧ (rightB w a b k = false → AV.bool false = r)) := by kernel_rfl

theorem gright6Cs_ok : ∀ e ∈ gright6Cs, SpecOK Try.prog e.1 e.2 := by
  intro e he
  simp only [gright6Cs, List.mem_cons, List.not_mem_nil, or_false] at he
  rcases he with rfl
  · exact pright_ok

theorem gright6_ok : SpecOK Try.prog 47 (genSpec [none, none] rrrF) := by
  refine genSpec_ok (run_ok (l := gright6Cs) gright6Cs_ok mixed noNG) fun l R hF => ?_
  unfold rrrF at hF
  split at hF
  · rename_i w a b k j
    refine ⟨_, hF, rfl, [.fork [.fork [] []] []], ?_⟩
    show run gright6Cs Try.prog _ [.int .i64 w, .agg [.w64 a, .w64 b, .int .i64 k, .int .i64 j]] [] _ _
    rw [gright6_run]
    have e : riR w ⟨⟨a, b, k⟩, j⟩ = (rightB w a b k && (decide (j ≥ 1) && decide (j ≤ 255))) := rfl
    refine ⟨fun h => ⟨fun h1 => ?_, fun h1 => ?_⟩, fun h => ?_⟩
    · rw [e, h, show decide (j ≥ 1) = true from h1]; rfl
    · rw [e, h, show decide (j ≥ 1) = false from h1]; rfl
    · rw [e, h]; rfl
  · exact hF.elim


theorem pfam_run (w : Int) (r : AV) : run [] Try.prog 43 [.int .i64 w] [] [.fork [] []] (yields (.v r)) =
    (((w == (32 : Int)) = true → AV.bool true = r) ∧ ((w == (32 : Int)) = false → AV.bool (w == (128 : Int)) = r)) := by kernel_rfl

theorem pfam_ok : SpecOK Try.prog 43 (genSpec [none] pfamF) := by
  refine genSpec_ok none_ok fun l R hF => ?_
  unfold pfamF at hF
  split at hF
  · rename_i w
    refine ⟨_, hF, rfl, [.fork [] []], ?_⟩
    show run [] Try.prog _ [.int .i64 w] [] _ _
    rw [pfam_run]
    refine ⟨fun h => ?_, fun h => ?_⟩
    · have h : w = 32 := by simpa using h
      subst h; rfl
    · have h : w ≠ 32 := by simpa using h
      by_cases h2 : w = 128
      · subst h2; rfl
      · simp [h, h2]
  · exact hF.elim


noncomputable def gtable6Cs : List (FuncId × Sx.Spec) := [(47, genSpec [none, none] rrrF),
  (43, genSpec [none] pfamF),
  (48, genSpec [none, none] cmppF)]

theorem gtable6_run (w : Int) (l : List Ro) (r : AV) : run gtable6Cs Try.prog 27 [.int .i64 w, .vsl 0 0 (l.map roE).length] [some ⟨false, (pRo.getD (0, 0)).1, (pRo.getD (0, 0)).2, true, (l.map roE)⟩] (gtH l w) (yields (.v r)) =
    (((!Decidable.decide (w = (32 : Int) ∨ w = (128 : Int))) = true → AV.bool false = r) ∧ ((!Decidable.decide (w = (32 : Int) ∨ w = (128 : Int))) = false → (Decidable.decide ((↑(List.length (List.map roE l)) : Int) > (256 : Int)) = true → AV.bool false = r) ∧ (Decidable.decide ((↑(List.length (List.map roE l)) : Int) > (256 : Int)) = false → (St.mk [AV.int IntKind.i64 w, AV.vsl (0 : Nat) (0 : Nat) (List.length (List.map roE l)), AV.any, AV.any, AV.any, AV.any, AV.any, AV.any, AV.any, AV.any, AV.any, AV.any, AV.any, AV.any, AV.any, AV.vsl (0 : Nat) (0 : Nat) (List.length (List.map roE l)), AV.int IntKind.i64 (↑(List.length (List.map roE l)) : Int), AV.int IntKind.i64 (0 : Int), AV.any, AV.any, AV.any, AV.any, AV.any, AV.any, AV.any, AV.any, AV.any, AV.any, AV.any, AV.any, AV.any, AV.any, AV.any, AV.any, AV.any, AV.any, AV.any, AV.any, AV.any, AV.any, AV.any, AV.any, AV.any] [some (Blk.mk false (nat_lit 48) (4 : Nat) true (List.map roE l))] = gtSt l w (0 : Nat) ∧ rtI l w (0 : Nat)) ∧ ∀ (p : Nat), rtI l w p → (Decidable.decide ((↑p : Int) < (↑(List.length (List.map roE l)) : Int)) = true → ((0 : Int) ≤ (↑p : Int) ∧ (↑p : Int) < (↑(List.length (List.map roE l)) : Int)) ∧ Blk.read Proofs.Try.prog (Blk.mk false (48 : TypeId) (4 : Nat) true (List.map roE l)) (48 : Nat) ((0 : Nat) + Int.toNat (↑p : Int)) (0 : Nat) = some (AV.agg [AV.w64 (Ro.p (at' l p)).1, AV.w64 (Ro.p (at' l p)).2, AV.int IntKind.i64 (Ro.p (at' l p)).3, AV.int IntKind.i64 (at' l p).2]) ∧ ((!riR w (Ro.mk (Pf.mk (Ro.p (at' l p)).1 (Ro.p (at' l p)).2 (Ro.p (at' l p)).3) (at' l p).2)) = true → AV.bool false = r) ∧ ((!riR w (Ro.mk (Pf.mk (Ro.p (at' l p)).1 (Ro.p (at' l p)).2 (Ro.p (at' l p)).3) (at' l p).2)) = false → (Decidable.decide ((↑p : Int) > (0 : Int)) = true → inRange IntKind.i64 ((↑p : Int) - (1 : Int)) ∧ ((0 : Int) ≤ (↑p : Int) - (1 : Int) ∧ (↑p : Int) - (1 : Int) < (↑(List.length (List.map roE l)) : Int)) ∧ Blk.read Proofs.Try.prog (Blk.mk false (48 : TypeId) (4 : Nat) true (List.map roE l)) (27 : Nat) ((0 : Nat) + Int.toNat ((↑p : Int) - (1 : Int))) ((0 : Nat) + (0 : Nat)) = some (AV.agg [AV.w64 (Ro.p (at' l (p - (1 : Nat)))).1, AV.w64 (Ro.p (at' l (p - (1 : Nat)))).2, AV.int IntKind.i64 (Ro.p (at' l (p - (1 : Nat)))).3]) ∧ (Decidable.decide (cmpP (Ro.p (at' l (p - (1 : Nat)))).1 (Ro.p (at' l (p - (1 : Nat)))).2 (Ro.p (at' l (p - (1 : Nat)))).3 (Ro.p (at' l p)).1 (Ro.p (at' l p)).2 (Ro.p (at' l p)).3 ≥ (0 : Int)) = true → AV.bool false = r) ∧ (Decidable.decide (cmpP (Ro.p (at' l (p - (1 : Nat)))).1 (Ro.p (at' l (p - (1 : Nat)))).2 (Ro.p (at' l (p - (1 : Nat)))).3 (Ro.p (at' l p)).1 (Ro.p (at' l p)).2 (Ro.p (at' l p)).3 ≥ (0 : Int)) = false → inRange IntKind.i64 ((↑p : Int) + (1 : Int)) ∧ ∃ (p' : Nat), St.mk [AV.int IntKind.i64 w, AV.vsl (0 : Nat) (0 : Nat) (List.length (List.map roE l)), AV.any, AV.any, AV.any, AV.any, AV.any, AV.any, AV.any, AV.any, AV.any, AV.any, AV.any, AV.any, AV.any, AV.vsl (0 : Nat) (0 : Nat) (List.length (List.map roE l)), AV.int IntKind.i64 (↑(List.length (List.map roE l)) : Int), AV.int IntKind.i64 ((↑p : Int) + (1 : Int)), AV.any, AV.any, AV.any, AV.any, AV.any, AV.any, AV.any, AV.any, AV.any, AV.any, AV.any, AV.any, AV.any, AV.any, AV.any, AV.any, AV.any, AV.any, AV.any, AV.any, AV.any, AV.any, AV.any, AV.any, AV.any] [some (Blk.mk false (48 : TypeId) (4 : Nat) true (List.map roE l))] = gtSt l w p' ∧ rtI l w p' ∧ List.length l + (1 : Nat) - p' < List.length l + (1 : Nat) - p)) ∧ (Decidable.decide ((↑p : Int) > (0 : Int)) = false → inRange IntKind.i64 ((↑p : Int) + (1 : Int)) ∧ ∃ (p' : Nat), St.mk [AV.int IntKind.i64 w, AV.vsl (0 : Nat) (0 : Nat) (List.length (List.map roE l)), AV.any, AV.any, AV.any, AV.any, AV.any, AV.any, AV.any, AV.any, AV.any, AV.any, AV.any, AV.any, AV.any, AV.vsl (0 : Nat) (0 : Nat) (List.length (List.map roE l)), AV.int IntKind.i64 (↑(List.length (List.map roE l)) : Int), AV.int IntKind.i64 ((↑p : Int) + (1 : Int)), AV.any, AV.any, AV.any, AV.any, AV.any, AV.any, AV.any, AV.any, AV.any, AV.any, AV.any, AV.any, AV.any, AV.any, AV.any, AV.any, AV.any, AV.any, AV.any, AV.any, AV.any, AV.any, AV.any, AV.any, AV.any] [some (Blk.mk false (48 : TypeId) (4 : Nat) true (List.map roE l))] = gtSt l w p' ∧ rtI l w p' ∧ List.length l + (1 : Nat) - p' < List.length l + (1 : Nat) - p))) ∧ (Decidable.decide ((↑p : Int) < (↑(List.length (List.map roE l)) : Int)) = false → AV.bool true = r)))) := by kernel_rfl

theorem gtable6Cs_ok : ∀ e ∈ gtable6Cs, SpecOK Try.prog e.1 e.2 := by
  intro e he
  simp only [gtable6Cs, List.mem_cons, List.not_mem_nil, or_false] at he
  rcases he with rfl | rfl | rfl
  · exact gright6_ok
  · exact pfam_ok
  · exact cmpp_ok

theorem gtable6_ok : SpecOK Try.prog 27 (genSpec [none, pRo] gtableF) := by
  refine genSpec_ok (run_ok (l := gtable6Cs) gtable6Cs_ok mixed noNG) fun l R hF => ?_
  unfold gtableF at hF
  split at hF
  · rename_i w r_l
    obtain ⟨hr_l, hl, hF⟩ := hF
    generalize deR r_l = l at hr_l hl hF
    subst hr_l
    refine ⟨_, hF, rfl, (gtH l w), ?_⟩
    show run gtable6Cs Try.prog _ [.int .i64 w, .vsl 0 0 (l.map roE).length] [some ⟨false, (pRo.getD (0, 0)).1, (pRo.getD (0, 0)).2, true, (l.map roE)⟩] _ _
    rw [gtable6_run]
    refine ⟨fun h => ?_, fun h => ⟨fun hg => ?_, fun hg => ⟨⟨rfl, Nat.zero_le _, fun i hi => by omega⟩, ?_⟩⟩⟩
    · have h : ¬ (w = 32 ∨ w = 128) := by simpa using h
      rw [notT tbR_def fun hh => h hh.1]
    · have hg : l.length > 256 := by simp only [decide_eq_true_eq, List.length_map] at hg; omega
      rw [notT tbR_def fun hh => by have := hh.2.1; omega]
    have hw : w = 32 ∨ w = 128 := by
      by_cases e : w = 32 ∨ w = 128
      · exact e
      · rw [decide_eq_false e] at h; cases h
    have hm : l.length ≤ 256 := by simp only [decide_eq_false_iff_not, List.length_map] at hg; omega
    rintro p ⟨h1, h2⟩
    refine ⟨fun hlt => ?_, fun hge => ?_⟩
    · have hp : p < l.length := by simp only [decide_eq_true_eq, List.length_map] at hlt; omega
      have B : 0 ≤ (p : Int) ∧ (p : Int) < ((l.map roE).length : Int) := by rw [List.length_map]; omega
      have nx : riR w (at' l p) = true → (0 < p → cpP (at' l (p - 1)).p (at' l p).p < 0) → inRange .i64 ((p : Int) + 1) ∧ ∃ p', gtSt l w (p + 1) = gtSt l w p' ∧ rtI l w p' ∧ l.length + 1 - p' < l.length + 1 - p := fun g1 g2 => ⟨inR (by omega) (by omega), p + 1, rfl, ⟨by omega, up h2 ⟨g1, g2⟩⟩, by omega⟩
      refine ⟨B, read_rows B.1 B.2 (ro_whole _), fun hr => ?_, fun hr => ⟨fun h0 => ?_, fun h0 => nx (by simpa using hr) fun h => ?_⟩⟩
      · have hr : riR w (at' l p) = false := by simpa using hr
        rw [notT tbR_def fun h => by have := h.2.2.1 p hp; rw [hr] at this; cases this]
      · have h0 : 0 < p := by simp only [decide_eq_true_eq] at h0; omega
        have e1 : ((p : Int) - 1).toNat = p - 1 := by omega
        refine ⟨inR (by omega) (by omega), ⟨by omega, by omega⟩, read_rows (by omega) (by omega) (by rw [e1]; exact ro_p _), fun hc => ?_, fun hc => nx (by simpa using hr) fun _ => ?_⟩
        · have hc : cpP (at' l (p - 1)).p (at' l p).p ≥ 0 := of_decide_eq_true hc
          rw [notT tbR_def fun h => by have := h.2.2.2 p hp h0; omega]
        · have hc : ¬ cpP (at' l (p - 1)).p (at' l p).p ≥ 0 := of_decide_eq_false hc
          omega
      · simp only [decide_eq_false_iff_not] at h0; omega
    · have hp : p = l.length := by simp only [decide_eq_false_iff_not, List.length_map] at hge; omega
      subst hp
      rw [tbR_def.2 ⟨hw, hm, fun i hi => (h2 i hi).1, fun i hi => (h2 i hi).2⟩]
  · exact hF.elim


noncomputable def place6Cs : List (FuncId × Sx.Spec) := [(48, genSpec [none, none] cmppF)]

theorem place6_run (l : List Ro) (a b : BitVec 64) (k : Int) (r : AV) : run place6Cs Try.prog 44 [.vsl 0 0 (l.map roE).length, .agg [.w64 a, .w64 b, .int .i64 k]] [some ⟨false, (pRo.getD (0, 0)).1, (pRo.getD (0, 0)).2, true, (l.map roE)⟩] (plH l a b k) (yields (.v r)) =
    ((St.mk [AV.vsl (0 : Nat) (0 : Nat) (List.length (List.map roE l)), AV.any, AV.func (Fn.func (56 : Nat)) [] [], AV.any, AV.ptr ((0 : Nat) + (1 : Nat) + (1 : Nat)) (0 : Nat) (0 : Nat) true, AV.any, AV.any, AV.any, AV.int IntKind.i64 (↑(List.length (List.map roE l)) : Int), AV.int IntKind.i64 (0 : Int), AV.int IntKind.i64 (↑(List.length (List.map roE l)) : Int), AV.any, AV.any, AV.any, AV.any, AV.any, AV.any, AV.any, AV.any, AV.any, AV.any, AV.any, AV.any, AV.any, AV.any, AV.any, AV.any, AV.any, AV.any, AV.any, AV.any, AV.any, AV.any, AV.any, AV.any, AV.any, AV.any, AV.any, AV.any, AV.any, AV.any, AV.any, AV.any, AV.any, AV.any, AV.any, AV.any, AV.any, AV.any] [some (Blk.mk false (nat_lit 48) (4 : Nat) true (List.map roE l)), some (Blk.mk true (27 : Nat) (3 : Nat) true [AV.agg [AV.w64 a, AV.w64 b, AV.int IntKind.i64 k]]), some (Blk.mk true (27 : Nat) (3 : Nat) true [AV.agg [AV.w64 a, AV.w64 b, AV.int IntKind.i64 k]])] = plSt l a b k ((0 : Nat), List.length (List.map roE l)) ∧ plI l (Pf.mk a b k) ((0 : Nat), List.length (List.map roE l))) ∧ ∀ (p : Nat × Nat), plI l (Pf.mk a b k) p → (Decidable.decide ((↑p.1 : Int) < (↑p.2 : Int)) = true → inRange IntKind.i64 ((↑p.1 : Int) + (↑p.2 : Int)) ∧ IntKind.wrap IntKind.i64 (↑(BitVec.toNat (BitVec.ofInt (64 : Nat) ((↑p.1 : Int) + (↑p.2 : Int)) >>> Int.toNat (1 : Int))) : Int) = (↑((p.1 + p.2) / (2 : Nat)) : Int) ∧ (p.1 + p.2) / (2 : Nat) < List.length (List.map roE l) ∧ Blk.read Proofs.Try.prog (Blk.mk false (48 : TypeId) (4 : Nat) true (List.map roE l)) (48 : Nat) ((0 : Nat) + (p.1 + p.2) / (2 : Nat)) (0 : Nat) = some (AV.agg [AV.w64 (Ro.p (at' l ((Prod.fst p + Prod.snd p) / (2 : Nat)))).1, AV.w64 (Ro.p (at' l ((Prod.fst p + Prod.snd p) / (2 : Nat)))).2, AV.int IntKind.i64 (Ro.p (at' l ((Prod.fst p + Prod.snd p) / (2 : Nat)))).3, AV.int IntKind.i64 (at' l ((Prod.fst p + Prod.snd p) / (2 : Nat))).2]) ∧ (Decidable.decide (cmpP (Ro.p (at' l ((Prod.fst p + Prod.snd p) / (2 : Nat)))).1 (Ro.p (at' l ((Prod.fst p + Prod.snd p) / (2 : Nat)))).2 (Ro.p (at' l ((Prod.fst p + Prod.snd p) / (2 : Nat)))).3 a b k < (0 : Int)) = true → inRange IntKind.i64 (IntKind.wrap IntKind.i64 (↑(BitVec.toNat (BitVec.ofInt (64 : Nat) ((↑p.1 : Int) + (↑p.2 : Int)) >>> Int.toNat (1 : Int))) : Int) + (1 : Int)) ∧ ∃ (p' : Nat × Nat), St.mk [AV.vsl (0 : Nat) (0 : Nat) (List.length (List.map roE l)), AV.any, AV.func (Fn.func (56 : FuncId)) [] [], AV.any, AV.ptr ((0 : Nat) + (1 : Nat) + (1 : Nat)) (0 : Nat) (0 : Nat) true, AV.any, AV.any, AV.any, AV.int IntKind.i64 (↑(List.length (List.map roE l)) : Int), AV.int IntKind.i64 (IntKind.wrap IntKind.i64 (↑(BitVec.toNat (BitVec.ofInt (64 : Nat) ((↑p.1 : Int) + (↑p.2 : Int)) >>> Int.toNat (1 : Int))) : Int) + (1 : Int)), AV.int IntKind.i64 (↑p.2 : Int), AV.any, AV.any, AV.any, AV.any, AV.any, AV.any, AV.any, AV.any, AV.any, AV.any, AV.any, AV.any, AV.any, AV.any, AV.any, AV.any, AV.any, AV.any, AV.any, AV.any, AV.any, AV.any, AV.any, AV.any, AV.any, AV.any, AV.any, AV.any, AV.any, AV.any, AV.any, AV.any, AV.any, AV.any, AV.any, AV.any, AV.any, AV.any] [some (Blk.mk false (48 : TypeId) (4 : Nat) true (List.map roE l)), some (Blk.mk true (27 : TypeId) (3 : Nat) true [AV.agg [AV.w64 a, AV.w64 b, AV.int IntKind.i64 k]]), some (Blk.mk true (27 : TypeId) (3 : Nat) true [AV.agg [AV.w64 a, AV.w64 b, AV.int IntKind.i64 k]])] = plSt l a b k p' ∧ plI l (Pf.mk a b k) p' ∧ p'.2 - p'.1 < p.2 - p.1) ∧ (Decidable.decide (cmpP (Ro.p (at' l ((Prod.fst p + Prod.snd p) / (2 : Nat)))).1 (Ro.p (at' l ((Prod.fst p + Prod.snd p) / (2 : Nat)))).2 (Ro.p (at' l ((Prod.fst p + Prod.snd p) / (2 : Nat)))).3 a b k < (0 : Int)) = false → ∃ (p' : Nat × Nat), St.mk [AV.vsl (0 : Nat) (0 : Nat) (List.length (List.map roE l)), AV.any, AV.func (Fn.func (56 : FuncId)) [] [], AV.any, AV.ptr ((0 : Nat) + (1 : Nat) + (1 : Nat)) (0 : Nat) (0 : Nat) true, AV.any, AV.any, AV.any, AV.int IntKind.i64 (↑(List.length (List.map roE l)) : Int), AV.int IntKind.i64 (↑p.1 : Int), AV.int IntKind.i64 (IntKind.wrap IntKind.i64 (↑(BitVec.toNat (BitVec.ofInt (64 : Nat) ((↑p.1 : Int) + (↑p.2 : Int)) >>> Int.toNat (1 : Int))) : Int)), AV.any, AV.any, AV.any, AV.any, AV.any, AV.any, AV.any, AV.any, AV.any, AV.any, AV.any, AV.any, AV.any, AV.any, AV.any, AV.any, AV.any, AV.any, AV.any, AV.any, AV.any, AV.any, AV.any, AV.any, AV.any, AV.any, AV.any, AV.any, AV.any, AV.any, AV.any, AV.any, AV.any, AV.any, AV.any, AV.any, AV.any, AV.any] [some (Blk.mk false (48 : TypeId) (4 : Nat) true (List.map roE l)), some (Blk.mk true (27 : TypeId) (3 : Nat) true [AV.agg [AV.w64 a, AV.w64 b, AV.int IntKind.i64 k]]), some (Blk.mk true (27 : TypeId) (3 : Nat) true [AV.agg [AV.w64 a, AV.w64 b, AV.int IntKind.i64 k]])] = plSt l a b k p' ∧ plI l (Pf.mk a b k) p' ∧ p'.2 - p'.1 < p.2 - p.1)) ∧ (Decidable.decide ((↑p.1 : Int) < (↑p.2 : Int)) = false → (Decidable.decide ((↑p.1 : Int) < (↑(List.length (List.map roE l)) : Int)) = true → ((0 : Int) ≤ (↑p.1 : Int) ∧ (↑p.1 : Int) < (↑(List.length (List.map roE l)) : Int)) ∧ Blk.read Proofs.Try.prog (Blk.mk false (48 : TypeId) (4 : Nat) true (List.map roE l)) (48 : Nat) ((0 : Nat) + Int.toNat (↑p.1 : Int)) (0 : Nat) = some (AV.agg [AV.w64 (Ro.p (at' l (Prod.fst p))).1, AV.w64 (Ro.p (at' l (Prod.fst p))).2, AV.int IntKind.i64 (Ro.p (at' l (Prod.fst p))).3, AV.int IntKind.i64 (at' l (Prod.fst p)).2]) ∧ AV.tuple [AV.int IntKind.i64 (↑p.1 : Int), AV.bool (cmpP (Ro.p (at' l (Prod.fst p))).1 (Ro.p (at' l (Prod.fst p))).2 (Ro.p (at' l (Prod.fst p))).3 a b k == (0 : Int))] = r) ∧ (Decidable.decide ((↑p.1 : Int) < (↑(List.length (List.map roE l)) : Int)) = false → AV.tuple [AV.int IntKind.i64 (↑p.1 : Int), AV.bool false] = r))) := by kernel_rfl

theorem place6Cs_ok : ∀ e ∈ place6Cs, SpecOK Try.prog e.1 e.2 := by
  intro e he
  simp only [place6Cs, List.mem_cons, List.not_mem_nil, or_false] at he
  rcases he with rfl
  · exact cmpp_ok

theorem place6_ok : SpecOK Try.prog 44 (genSpec [pRo, none] placeF) := by
  refine genSpec_ok (run_ok (l := place6Cs) place6Cs_ok mixed noNG) fun l R hF => ?_
  unfold placeF at hF
  split at hF
  · rename_i r_l a b k
    obtain ⟨hr_l, hl, hF⟩ := hF
    generalize deR r_l = l at hr_l hl hF
    subst hr_l
    refine ⟨_, hF, rfl, (plH l a b k), ?_⟩
    show run place6Cs Try.prog _ [.vsl 0 0 (l.map roE).length, .agg [.w64 a, .w64 b, .int .i64 k]] [some ⟨false, (pRo.getD (0, 0)).1, (pRo.getD (0, 0)).2, true, (l.map roE)⟩] _ _
    rw [place6_run]
    have T := tbR_iff.1 hl
    have hm := T.most
    have half : ∀ a b : Nat, a + b ≤ 1000000 → IntKind.i64.wrap (((BitVec.ofInt 64 ((a : Int) + (b : Int))) >>> Int.toNat 1).toNat : Int) = (((a + b) / 2 : Nat) : Int) := fun a b h => by
      have e := toNat_ofInt (n := (a : Int) + b) (by omega) (by omega)
      have e2 : (BitVec.ofInt 64 ((a : Int) + (b : Int))).toNat = a + b := by omega
      rw [BitVec.toNat_ushiftRight, e2, show Int.toNat 1 = 1 from rfl, Nat.shiftRight_eq_div_pow, IntKind.wrap_i64]
      omega
    refine ⟨⟨rfl, Nat.zero_le _, by rw [List.length_map]; exact Nat.le_refl _, fun t ht => absurd ht (Nat.not_lt_zero _), fun t h1 h2 => by rw [List.length_map] at h1; omega⟩, ?_⟩
    rintro ⟨i, j⟩ ⟨h1, h2, h3, h4⟩
    dsimp only at h1 h2 h3 h4 ⊢
    refine ⟨fun hlt => ?_, fun hge => ?_⟩
    · have hlt : i < j := by have := of_decide_eq_true hlt; omega
      have hh := half i j (by omega)
      have hb : (i + j) / 2 < l.length := by omega
      refine ⟨inR (by omega) (by omega), hh, by rw [List.length_map]; exact hb, read_rows (k := (((i + j) / 2 : Nat) : Int)) (by omega) (by rw [List.length_map]; omega) (ro_whole _), fun hc => ?_, fun hc => ?_⟩
      · have hc : cpP (at' l ((i + j) / 2)).p ⟨a, b, k⟩ < 0 := of_decide_eq_true hc
        refine ⟨by rw [hh]; exact inR (by omega) (by omega), ((i + j) / 2 + 1, j), by rw [hh]; rfl, ⟨?_, h2, fun t ht => lt_down T ?_ hb hc, h4⟩, ?_⟩
        · show (i + j) / 2 + 1 ≤ j
          omega
        · have ht : t < (i + j) / 2 + 1 := ht
          omega
        · show j - ((i + j) / 2 + 1) < j - i
          omega
      · have hc : ¬ cpP (at' l ((i + j) / 2)).p ⟨a, b, k⟩ < 0 := of_decide_eq_false hc
        refine ⟨(i, (i + j) / 2), by rw [hh]; rfl, ⟨?_, ?_, h3, fun t ht htl => ge_up T ht htl hc⟩, ?_⟩
        · show i ≤ (i + j) / 2
          omega
        · show (i + j) / 2 ≤ l.length
          omega
        · show (i + j) / 2 - i < j - i
          omega
    · have he : i = j := by have := of_decide_eq_false hge; omega
      subst he
      have hp : PlN l ⟨a, b, k⟩ i := ⟨h2, h3, fun hi => h4 i (Nat.le_refl _) hi⟩
      rw [plN_is hp]
      refine ⟨fun hlt => ?_, fun hge => ?_⟩
      · have hi : i < l.length := by have := of_decide_eq_true hlt; rw [List.length_map] at this; omega
        refine ⟨⟨by omega, by rw [List.length_map]; omega⟩, read_rows (k := (i : Int)) (by omega) (by rw [List.length_map]; omega) (ro_whole _), ?_⟩
        have e : (cmpP (at' l i).p.a (at' l i).p.b (at' l i).p.len a b k == 0) = (fdR l ⟨a, b, k⟩).isSome := by
          have d : cmpP (at' l i).p.a (at' l i).p.b (at' l i).p.len a b k = cpP (at' l i).p ⟨a, b, k⟩ := rfl
          rw [d]
          rcases fd_place T hp with ⟨⟨h, _⟩, hn⟩ | ⟨_, h0, _, h⟩
          · rw [h, beq_false_of_ne (hn hi)]; rfl
          · rw [h, h0]; rfl
        rw [← e]
      · have hi : ¬ i < l.length := by have := of_decide_eq_false hge; rw [List.length_map] at this; omega
        have e : fdR l ⟨a, b, k⟩ = none := by
          rcases fd_place T hp with ⟨⟨h, _⟩, _⟩ | ⟨h, _⟩
          · exact h
          · exact absurd h hi
        rw [e]; rfl
  · exact hF.elim


end Go.Proofs.Ytfcjghgfanaipaa.L1
end

section
/-
  Layer 6: contracts of the program's calls: Find, Drop, Put, what covers, Best, Tell, Cover, Under.
-/
namespace Go.Proofs.Ytfcjghgfanaipaa.L1
open Go.Sx Go.Sx.M

def pinsF : List Arg → (Res → Prop) → Prop
  | [.v (.agg [.w64 a, .w64 b, .int .i64 k]), .v (.agg [.w64 c, .w64 d, .int .i64 m])], R => R (.v (.bool (ovP ⟨c, d, m⟩ ⟨a, b, k⟩)))
  | _, _ => False

def ptHd (l : List Ro) (q : Pf) (x y : List Hint) : List Hint := [.fork (.ix (plN l q) :: .nw :: .ix (plN l q + 1) :: x) (.ix (plN l q) :: .ix (plN l q) :: y)]
def gpH (F : List Ro → List AV) (l : List Ro) (r : Ro) : List Hint :=
  [.fork [.ix (plN l r.p), .nw, .ix (plN l r.p + 1), .loop 4, .nw, .br false, .nw, .br false, .nw, .br false, .loop 4, .rows (F (l.take (plN l r.p))), .rows (F (l.take (plN l r.p) ++ [r])), .rows (F (ptR l r))]
    [.ix (plN l r.p), .ix (plN l r.p), .loop 4, .nw, .br false, .nw, .br false, .nw, .br false, .loop 4, .rows (F (l.take (plN l r.p))), .rows (F (l.take (plN l r.p) ++ [r])), .rows (F (ptR l r))]]
def gdH (F : List Ro → List AV) (l : List Ro) (q : Pf) : List Hint :=
  [.fork [.ix (plN l q), .nw, .ix (plN l q + 1), .loop 3, .nw, .br false, .nw, .br false, .loop 3, .rows (F (l.take (plN l q))), .rows (F (drR l q))]
    [.ix (plN l q), .ix (plN l q), .loop 3, .nw, .br false, .nw, .br false, .loop 3, .rows (F (l.take (plN l q))), .rows (F (drR l q))]]

/-- A walk that keeps the longest: of the first p the place of the one that is kept; it. -/
def kpX (ok : Ro → Bool) (l : List Ro) (p : Nat) : Int := fbX ok lnR l p
def kxR (ok : Ro → Bool) (l : List Ro) (p : Nat) : Ro := if kpX ok l p < 0 then ⟨⟨0#64, 0#64, 0⟩, 0⟩ else at' l (kpX ok l p).toNat

def bsFn : AV := .func (.func 39) [] [.ptr 1 0 0 true]
def cvFn : AV := .func (.func 45) [] [.ptr 1 0 0 true]
def roN : AV := roE ⟨⟨0#64, 0#64, 0⟩, 0⟩
def lgSt (fn : AV) (box : Blk) (ok : Ro → Bool) (l : List Ro) (p : Nat) : St :=
  ⟨[.any, fn, .any, .any, .ptr 3 0 0 true, .any, .ptr 4 0 0 true, .bool (decide (kpX ok l p ≥ 0)), .any, .any, .any, .vsl 0 0 (l.map roE).length, .int .i64 (l.map roE).length, .int .i64 p, .any, .any, .any, .any, .any, .any, .any, .any, .any, .any, .any, .any, .any, .any, .any, .any, .any, .any, .any, .any, .any, .any, .any, .any, .any], [some ⟨false, 48, 4, true, l.map roE⟩, some box, some ⟨true, 48, 4, true, [roN]⟩, some ⟨true, 48, 4, true, [roN]⟩, some ⟨true, 48, 4, true, [roE (kxR ok l p)]⟩]⟩
def lgM0 : Modes := ⟨[0, 1, 0, 0, 1, 0, 1, 2, 0, 0, 0, 1, 1, 2, 0, 0, 0, 0, 0, 0, 0, 0, 0, 0, 0, 0, 0, 0, 0, 0, 0, 0, 0, 0, 0, 0, 0, 0, 0], [0, 1, 2, 3, 4], [1, 1, 2, 2, 2], [], []⟩
def lgM' : Modes := ⟨[0, 0, 0, 0, 1, 0, 1, 2, 0, 0, 0, 0, 0, 0, 0, 0, 0, 0, 0, 0, 0, 0, 0, 0, 0, 0, 0, 0, 0, 0, 0, 0, 0, 0, 0, 0, 0, 0, 0], [0, 1, 2, 3, 4], [1, 1, 1, 1, 1], [], []⟩
def lgH (fn : AV) (box : Blk) (ok : Ro → Bool) (l : List Ro) : List Hint := [.linv _ 0 (lgSt fn box ok l) (fun p => p ≤ l.length) (fun p => l.length + 1 - p) lgM0 lgM0 lgM' (fun _ => []) fun p =>
  [.fork [.dy, .cell (roE (at' l p)), .fork [.fork [.nw] [.nw]] [.fork [.fork [.nw] [.nw]] [.nw]]] []]]
def bsBox (c d : BitVec 64) : Blk := ⟨true, 25, 2, true, [.agg [.w64 c, .w64 d]]⟩
def cvBox (a b : BitVec 64) (k : Int) : Blk := ⟨true, 27, 3, true, [.agg [.w64 a, .w64 b, .int .i64 k]]⟩

theorem kp_yes {ok : Ro → Bool} {l : List Ro} {p : Nat} (h1 : kpX ok l p < 0 ∨ (at' l p).p.len > (kxR ok l p).p.len) (h2 : ok (at' l p) = true) : kxR ok l (p + 1) = at' l p ∧ decide (kpX ok l (p + 1) ≥ 0) = true := by
  have e : kpX ok l (p + 1) = p := by
    have d : kpX ok l (p + 1) = if (decide (kpX ok l p < 0) || decide (lnR (at' l p) > lnR (at' l (kpX ok l p).toNat))) && ok (at' l p) then (p : Int) else kpX ok l p := rfl
    rw [d, if_pos]
    rw [h2, Bool.and_true, Bool.or_eq_true, decide_eq_true_eq, decide_eq_true_eq]
    by_cases h : kpX ok l p < 0
    · exact .inl h
    · refine .inr ?_
      have h1 := h1.resolve_left h
      unfold kxR at h1
      rw [if_neg h] at h1
      exact h1
  unfold kxR
  rw [e, if_neg (by omega)]
  exact ⟨rfl, decide_eq_true (by omega)⟩

theorem kp_no {ok : Ro → Bool} {l : List Ro} {p : Nat} (h : ok (at' l p) = false ∨ (kpX ok l p ≥ 0 ∧ ¬ (at' l p).p.len > (kxR ok l p).p.len)) : kxR ok l (p + 1) = kxR ok l p ∧ decide (kpX ok l (p + 1) ≥ 0) = decide (kpX ok l p ≥ 0) := by
  have e : kpX ok l (p + 1) = kpX ok l p := by
    have d : kpX ok l (p + 1) = if (decide (kpX ok l p < 0) || decide (lnR (at' l p) > lnR (at' l (kpX ok l p).toNat))) && ok (at' l p) then (p : Int) else kpX ok l p := rfl
    rw [d, if_neg]
    rcases h with h | ⟨h1, h2⟩
    · rw [h]; simp
    · have hn : ¬ kpX ok l p < 0 := by omega
      unfold kxR at h2
      rw [if_neg hn] at h2
      have h2 : ¬ lnR (at' l p) > lnR (at' l (kpX ok l p).toNat) := h2
      simp [hn, h2]
  unfold kxR
  rw [e]
  exact ⟨rfl, rfl⟩

theorem kp_end {ok : Ro → Bool} {l : List Ro} {o : Option Ro} (h : o = if kpX ok l l.length < 0 then none else some (at' l (kpX ok l l.length).toNat)) : kxR ok l l.length = roO o ∧ decide (kpX ok l l.length ≥ 0) = o.isSome := by
  subst h
  unfold kxR
  split
  · rename_i h
    exact ⟨rfl, decide_eq_false (by omega)⟩
  · rename_i h
    exact ⟨rfl, decide_eq_true (by omega)⟩

theorem cut_left (l : List Ro) (i : Nat) (hi : i ≤ l.length) : List.take (0 + (i - 0)) ((l.take i).map roE) = (l.take i).map roE :=
  List.take_of_length_le (by rw [List.length_map, List.length_take]; omega)

theorem cut_mid (l : List Ro) (r : Ro) (i : Nat) (hi : i ≤ l.length) : List.take (0 + (i - 0) + 1) ((l.take i ++ [r]).map roE) = (l.take i ++ [r]).map roE :=
  List.take_of_length_le (by rw [List.length_map, List.length_append, List.length_take, List.length_cons, List.length_nil]; omega)

theorem cut_right (l : List Ro) (i : Nat) : List.take ((l.map roE).length - i) (List.drop (0 + i) (l.map roE)) = (l.drop i).map roE := by
  rw [Nat.zero_add, List.map_drop]
  exact List.take_of_length_le (by rw [List.length_drop]; exact Nat.le_refl _)

theorem cut_first (l : List Ro) (i : Nat) : ([] : List AV) ++ List.take (i - 0) (List.drop (0 + 0) (l.map roE)) = (l.take i).map roE := by
  rw [List.nil_append, Nat.sub_zero, Nat.add_zero, List.drop_zero, List.map_take]

noncomputable def gfind6Cs : List (FuncId × Sx.Spec) := [(44, genSpec [pRo, none] placeF)]

theorem gfind6_run (l : List Ro) (a b : BitVec 64) (k : Int) (r : AV) : run gfind6Cs Try.prog 24 [.vsl 0 0 (l.map roE).length, .agg [.w64 a, .w64 b, .int .i64 k]] [some ⟨false, (pRo.getD (0, 0)).1, (pRo.getD (0, 0)).2, true, (l.map roE)⟩] [.fork [] [.dy, .cell (roE (at' l (plN l ⟨a, b, k⟩)))]] (yields (.v r)) =
    ((0 : Nat) + List.length (List.map roE l) ≤ List.length (List.map roE l) ∧ List.take (List.length (List.map roE l)) (List.drop (0 : Nat) (List.map roE l)) = List.map roE (deR (List.take (List.length (List.map roE l)) (List.drop (0 : Nat) (List.map roE l)))) ∧ tbR (128 : Int) (deR (List.take (List.length (List.map roE l)) (List.drop (0 : Nat) (List.map roE l)))) = true ∧ ((!Option.isSome (fdR (deR (List.take (List.length (List.map roE l)) (List.drop (0 : Nat) (List.map roE l)))) (Pf.mk a b k))) = true → AV.tuple [AV.agg [AV.w64 (BitVec.ofInt (64 : Nat) (0 : Int)), AV.w64 (BitVec.ofInt (64 : Nat) (0 : Int)), AV.int IntKind.i64 (0 : Int), AV.int IntKind.i64 (0 : Int)], AV.bool false] = r) ∧ ((!Option.isSome (fdR (deR (List.take (List.length (List.map roE l)) (List.drop (0 : Nat) (List.map roE l)))) (Pf.mk a b k))) = false → ((0 : Int) ≤ (↑(plN (deR (List.take (List.length (List.map roE l)) (List.drop (0 : Nat) (List.map roE l)))) (Pf.mk a b k)) : Int) ∧ (↑(plN (deR (List.take (List.length (List.map roE l)) (List.drop (0 : Nat) (List.map roE l)))) (Pf.mk a b k)) : Int) < (↑(List.length (List.map roE l)) : Int)) ∧ Blk.read Proofs.Try.prog (Blk.mk false (nat_lit 48) (4 : Nat) true (List.map roE l)) (48 : Nat) ((0 : Nat) + Int.toNat (↑(plN (deR (List.take (List.length (List.map roE l)) (List.drop (0 : Nat) (List.map roE l)))) (Pf.mk a b k)) : Int)) (0 : Nat) = some (AV.agg [AV.w64 (Ro.p (at' l (plN l (Pf.mk a b k)))).1, AV.w64 (Ro.p (at' l (plN l (Pf.mk a b k)))).2, AV.int IntKind.i64 (Ro.p (at' l (plN l (Pf.mk a b k)))).3, AV.int IntKind.i64 (at' l (plN l (Pf.mk a b k))).2]) ∧ AV.tuple [AV.agg [AV.w64 (Ro.p (at' l (plN l (Pf.mk a b k)))).1, AV.w64 (Ro.p (at' l (plN l (Pf.mk a b k)))).2, AV.int IntKind.i64 (Ro.p (at' l (plN l (Pf.mk a b k)))).3, AV.int IntKind.i64 (at' l (plN l (Pf.mk a b k))).2], AV.bool true] = r)) := by kernel_rfl

theorem gfind6Cs_ok : ∀ e ∈ gfind6Cs, SpecOK Try.prog e.1 e.2 := by
  intro e he
  simp only [gfind6Cs, List.mem_cons, List.not_mem_nil, or_false] at he
  rcases he with rfl
  · exact place6_ok

theorem gfind6_ok : SpecOK Try.prog 24 (genSpec [pRo, none] gfindF) := by
  refine genSpec_ok (run_ok (l := gfind6Cs) gfind6Cs_ok mixed noNG) fun l R hF => ?_
  unfold gfindF at hF
  split at hF
  · rename_i r_l a b k
    obtain ⟨hr_l, hl, hF⟩ := hF
    generalize deR r_l = l at hr_l hl hF
    subst hr_l
    refine ⟨_, hF, rfl, [.fork [] [.dy, .cell (roE (at' l (plN l ⟨a, b, k⟩)))]], ?_⟩
    show run gfind6Cs Try.prog _ [.vsl 0 0 (l.map roE).length, .agg [.w64 a, .w64 b, .int .i64 k]] [some ⟨false, (pRo.getD (0, 0)).1, (pRo.getD (0, 0)).2, true, (l.map roE)⟩] _ _
    rw [gfind6_run]
    have T := tbR_iff.1 hl
    simp only [whole_row, deR_map]
    refine ⟨by omega, trivial, hl, fun h => ?_, fun h => ?_⟩
    · have h : (fdR l ⟨a, b, k⟩).isSome = false := by simpa using h
      cases hf : fdR l ⟨a, b, k⟩ with
      | none => rfl
      | some x => rw [hf] at h; cases h
    · have h : (fdR l ⟨a, b, k⟩).isSome = true := by simpa using h
      obtain ⟨h1, h2, _⟩ := fd_some T h
      refine ⟨⟨by omega, by rw [List.length_map]; omega⟩, read_rows (k := (plN l ⟨a, b, k⟩ : Int)) (by omega) (by rw [List.length_map]; omega) (ro_whole _), ?_⟩
      rw [h2]; rfl
  · exact hF.elim


noncomputable def gdrop6Cs : List (FuncId × Sx.Spec) := [(44, genSpec [pRo, none] placeF),
  (54, grow6Spec)]

theorem gdrop6_run (l : List Ro) (a b : BitVec 64) (k : Int) (F : List Ro → List AV) (es : List AV) : run gdrop6Cs Try.prog 22 [.vsl 0 0 (l.map roE).length, .agg [.w64 a, .w64 b, .int .i64 k]] [some ⟨false, (pRo.getD (0, 0)).1, (pRo.getD (0, 0)).2, true, (l.map roE)⟩] (gdH F l ⟨a, b, k⟩) (yields (.vrow 48 4 es)) =
    ((0 : Nat) + List.length (List.map roE l) ≤ List.length (List.map roE l) ∧ List.take (List.length (List.map roE l)) (List.drop (0 : Nat) (List.map roE l)) = List.map roE (deR (List.take (List.length (List.map roE l)) (List.drop (0 : Nat) (List.map roE l)))) ∧ tbR (128 : Int) (deR (List.take (List.length (List.map roE l)) (List.drop (0 : Nat) (List.map roE l)))) = true ∧ (Option.isSome (fdR (deR (List.take (List.length (List.map roE l)) (List.drop (0 : Nat) (List.map roE l)))) (Pf.mk a b k)) = true → (↑(plN (deR (List.take (List.length (List.map roE l)) (List.drop (0 : Nat) (List.map roE l)))) (Pf.mk a b k)) : Int) = (↑(plN l (Pf.mk a b k)) : Int) ∧ plN l (Pf.mk a b k) < List.length (List.map roE l) + (1 : Nat) ∧ inRange IntKind.i64 ((↑(plN (deR (List.take (List.length (List.map roE l)) (List.drop (0 : Nat) (List.map roE l)))) (Pf.mk a b k)) : Int) + (1 : Int)) ∧ (↑(plN (deR (List.take (List.length (List.map roE l)) (List.drop (0 : Nat) (List.map roE l)))) (Pf.mk a b k)) : Int) + (1 : Int) = (↑(plN l (Pf.mk a b k) + (1 : Nat)) : Int) ∧ plN l (Pf.mk a b k) + (1 : Nat) < List.length (List.map roE l) + (1 : Nat) ∧ inRange IntKind.i64 ((0 : Int) + (↑(plN l (Pf.mk a b k) - (0 : Nat)) : Int)) ∧ Decidable.decide ((0 : Int) + (↑(plN l (Pf.mk a b k) - (0 : Nat)) : Int) < (0 : Int)) = false ∧ inRange IntKind.i64 ((0 : Int) + (↑(plN l (Pf.mk a b k) - (0 : Nat)) : Int) + (↑(List.length (List.map roE l) - (plN l (Pf.mk a b k) + (1 : Nat))) : Int)) ∧ Decidable.decide ((0 : Int) + (↑(plN l (Pf.mk a b k) - (0 : Nat)) : Int) + (↑(List.length (List.map roE l) - (plN l (Pf.mk a b k) + (1 : Nat))) : Int) < (0 : Int)) = false ∧ ((0 : Int) ≤ (0 : Int) + (↑(plN l (Pf.mk a b k) - (0 : Nat)) : Int) + (↑(List.length (List.map roE l) - (plN l (Pf.mk a b k) + (1 : Nat))) : Int) ∧ ((0 : Int) + (↑(plN l (Pf.mk a b k) - (0 : Nat)) : Int) + (↑(List.length (List.map roE l) - (plN l (Pf.mk a b k) + (1 : Nat))) : Int)) * (↑(32 : Nat) : Int) ≤ (140737488355328 : Int) ∧ (0 : Int) + (↑(plN l (Pf.mk a b k) - (0 : Nat)) : Int) + (↑(List.length (List.map roE l) - (plN l (Pf.mk a b k) + (1 : Nat))) : Int) ≤ (4611686018427387904 : Int)) ∧ (((0 : Nat) + (plN l (Pf.mk a b k) - (0 : Nat))) * (32 : Nat) ≤ (140737488355328 : Nat) ∧ (0 : Nat) + (plN l (Pf.mk a b k) - (0 : Nat)) ≤ (9223372036854775807 : Nat) ∧ (0 : Nat) + (0 : Nat) + (plN l (Pf.mk a b k) - (0 : Nat)) ≤ List.length (List.map roE l) ∧ (0 : Nat) ≤ List.length ([] : List AV)) ∧ [] ++ List.take (plN l (Pf.mk a b k) - (0 : Nat)) (List.drop ((0 : Nat) + (0 : Nat)) (List.map roE l)) = F (List.take (plN l (Pf.mk a b k)) l) ∧ (((0 : Nat) + (plN l (Pf.mk a b k) - (0 : Nat)) + (List.length (List.map roE l) - (plN l (Pf.mk a b k) + (1 : Nat)))) * (32 : Nat) ≤ (140737488355328 : Nat) ∧ (0 : Nat) + (plN l (Pf.mk a b k) - (0 : Nat)) + (List.length (List.map roE l) - (plN l (Pf.mk a b k) + (1 : Nat))) ≤ (9223372036854775807 : Nat) ∧ (0 : Nat) + (plN l (Pf.mk a b k) + (1 : Nat)) + (List.length (List.map roE l) - (plN l (Pf.mk a b k) + (1 : Nat))) ≤ List.length (List.map roE l) ∧ (0 : Nat) + (plN l (Pf.mk a b k) - (0 : Nat)) ≤ List.length (F (List.take (plN l (Pf.mk a b k)) l))) ∧ List.take ((0 : Nat) + (plN l (Pf.mk a b k) - (0 : Nat))) (F (List.take (plN l (Pf.mk a b k)) l)) ++ List.take (List.length (List.map roE l) - (plN l (Pf.mk a b k) + (1 : Nat))) (List.drop ((0 : Nat) + (plN l (Pf.mk a b k) + (1 : Nat))) (List.map roE l)) = F (drR l (Pf.mk a b k)) ∧ (0 : Nat) + (plN l (Pf.mk a b k) - (0 : Nat)) + (List.length (List.map roE l) - (plN l (Pf.mk a b k) + (1 : Nat))) = List.length es ∧ some (Blk.mk true (48 : Nat) (4 : Nat) true (F (drR l (Pf.mk a b k)))) = some (Blk.mk true (48 : TypeId) (4 : Nat) true es)) ∧ (Option.isSome (fdR (deR (List.take (List.length (List.map roE l)) (List.drop (0 : Nat) (List.map roE l)))) (Pf.mk a b k)) = false → (↑(plN (deR (List.take (List.length (List.map roE l)) (List.drop (0 : Nat) (List.map roE l)))) (Pf.mk a b k)) : Int) = (↑(plN l (Pf.mk a b k)) : Int) ∧ plN l (Pf.mk a b k) < List.length (List.map roE l) + (1 : Nat) ∧ (↑(plN (deR (List.take (List.length (List.map roE l)) (List.drop (0 : Nat) (List.map roE l)))) (Pf.mk a b k)) : Int) = (↑(plN l (Pf.mk a b k)) : Int) ∧ plN l (Pf.mk a b k) < List.length (List.map roE l) + (1 : Nat) ∧ inRange IntKind.i64 ((0 : Int) + (↑(plN l (Pf.mk a b k) - (0 : Nat)) : Int)) ∧ Decidable.decide ((0 : Int) + (↑(plN l (Pf.mk a b k) - (0 : Nat)) : Int) < (0 : Int)) = false ∧ inRange IntKind.i64 ((0 : Int) + (↑(plN l (Pf.mk a b k) - (0 : Nat)) : Int) + (↑(List.length (List.map roE l) - plN l (Pf.mk a b k)) : Int)) ∧ Decidable.decide ((0 : Int) + (↑(plN l (Pf.mk a b k) - (0 : Nat)) : Int) + (↑(List.length (List.map roE l) - plN l (Pf.mk a b k)) : Int) < (0 : Int)) = false ∧ ((0 : Int) ≤ (0 : Int) + (↑(plN l (Pf.mk a b k) - (0 : Nat)) : Int) + (↑(List.length (List.map roE l) - plN l (Pf.mk a b k)) : Int) ∧ ((0 : Int) + (↑(plN l (Pf.mk a b k) - (0 : Nat)) : Int) + (↑(List.length (List.map roE l) - plN l (Pf.mk a b k)) : Int)) * (↑(32 : Nat) : Int) ≤ (140737488355328 : Int) ∧ (0 : Int) + (↑(plN l (Pf.mk a b k) - (0 : Nat)) : Int) + (↑(List.length (List.map roE l) - plN l (Pf.mk a b k)) : Int) ≤ (4611686018427387904 : Int)) ∧ (((0 : Nat) + (plN l (Pf.mk a b k) - (0 : Nat))) * (32 : Nat) ≤ (140737488355328 : Nat) ∧ (0 : Nat) + (plN l (Pf.mk a b k) - (0 : Nat)) ≤ (9223372036854775807 : Nat) ∧ (0 : Nat) + (0 : Nat) + (plN l (Pf.mk a b k) - (0 : Nat)) ≤ List.length (List.map roE l) ∧ (0 : Nat) ≤ List.length ([] : List AV)) ∧ [] ++ List.take (plN l (Pf.mk a b k) - (0 : Nat)) (List.drop ((0 : Nat) + (0 : Nat)) (List.map roE l)) = F (List.take (plN l (Pf.mk a b k)) l) ∧ (((0 : Nat) + (plN l (Pf.mk a b k) - (0 : Nat)) + (List.length (List.map roE l) - plN l (Pf.mk a b k))) * (32 : Nat) ≤ (140737488355328 : Nat) ∧ (0 : Nat) + (plN l (Pf.mk a b k) - (0 : Nat)) + (List.length (List.map roE l) - plN l (Pf.mk a b k)) ≤ (9223372036854775807 : Nat) ∧ (0 : Nat) + plN l (Pf.mk a b k) + (List.length (List.map roE l) - plN l (Pf.mk a b k)) ≤ List.length (List.map roE l) ∧ (0 : Nat) + (plN l (Pf.mk a b k) - (0 : Nat)) ≤ List.length (F (List.take (plN l (Pf.mk a b k)) l))) ∧ List.take ((0 : Nat) + (plN l (Pf.mk a b k) - (0 : Nat))) (F (List.take (plN l (Pf.mk a b k)) l)) ++ List.take (List.length (List.map roE l) - plN l (Pf.mk a b k)) (List.drop ((0 : Nat) + plN l (Pf.mk a b k)) (List.map roE l)) = F (drR l (Pf.mk a b k)) ∧ (0 : Nat) + (plN l (Pf.mk a b k) - (0 : Nat)) + (List.length (List.map roE l) - plN l (Pf.mk a b k)) = List.length es ∧ some (Blk.mk true (48 : Nat) (4 : Nat) true (F (drR l (Pf.mk a b k)))) = some (Blk.mk true (48 : TypeId) (4 : Nat) true es))) := by kernel_rfl

theorem gdrop6Cs_ok : ∀ e ∈ gdrop6Cs, SpecOK Try.prog e.1 e.2 := by
  intro e he
  simp only [gdrop6Cs, List.mem_cons, List.not_mem_nil, or_false] at he
  rcases he with rfl | rfl
  · exact place6_ok
  · exact grow6_ok

theorem gdrop6_ok : SpecOK Try.prog 22 (genSpec [pRo, none] gdropF) := by
  refine genSpec_ok (run_ok (l := gdrop6Cs) gdrop6Cs_ok mixed noNG) fun l R hF => ?_
  unfold gdropF at hF
  split at hF
  · rename_i r_l a b k
    obtain ⟨hr_l, hl, hF⟩ := hF
    generalize deR r_l = l at hr_l hl hF
    subst hr_l
    refine ⟨_, hF, trivial, (gdH (List.map roE) l ⟨a, b, k⟩), ?_⟩
    show run gdrop6Cs Try.prog _ [.vsl 0 0 (l.map roE).length, .agg [.w64 a, .w64 b, .int .i64 k]] [some ⟨false, (pRo.getD (0, 0)).1, (pRo.getD (0, 0)).2, true, (l.map roE)⟩] _ _
    rw [gdrop6_run]
    have T := tbR_iff.1 hl
    have hm := T.most
    have hlen : (l.map roE).length = l.length := List.length_map _
    have hpl := (PlN_plN ⟨a, b, k⟩ l).1
    simp only [whole_row, deR_map]
    have hd := drR_place T ⟨a, b, k⟩
    unfold bhN at hd
    refine ⟨by omega, trivial, hl, fun h => ?_, fun h => ?_⟩
    · rw [h, if_pos rfl] at hd
      have hi := (fd_some T h).1
      generalize plN l ⟨a, b, k⟩ = i at *
      have hdm : ((drR l ⟨a, b, k⟩).map roE).length = (drR l ⟨a, b, k⟩).length := List.length_map _
      have hdl : (drR l ⟨a, b, k⟩).length = i + (l.length - (i + 1)) := by rw [hd, List.length_append, List.length_take, List.length_drop]; omega
      refine ⟨by trivial, by omega, inR (by omega) (by omega), by trivial, by omega, inR (by omega) (by omega), decide_eq_false (by omega), inR (by omega) (by omega), decide_eq_false (by omega), ⟨by omega, by omega, by omega⟩, ⟨by omega, by omega, by omega, Nat.zero_le _⟩, cut_first l i, ⟨by omega, by omega, by omega, by rw [List.length_map, List.length_take]; omega⟩, ?_, by omega, by trivial⟩
      rw [cut_left l i (by omega), cut_right, hd, List.map_append]
    · rw [h, if_neg (by simp)] at hd
      generalize plN l ⟨a, b, k⟩ = i at *
      have hdm : ((drR l ⟨a, b, k⟩).map roE).length = (drR l ⟨a, b, k⟩).length := List.length_map _
      have hdl : (drR l ⟨a, b, k⟩).length = i + (l.length - i) := by rw [hd, List.length_append, List.length_take, List.length_drop]; omega
      refine ⟨by trivial, by omega, by trivial, by omega, inR (by omega) (by omega), decide_eq_false (by omega), inR (by omega) (by omega), decide_eq_false (by omega), ⟨by omega, by omega, by omega⟩, ⟨by omega, by omega, by omega, Nat.zero_le _⟩, cut_first l i, ⟨by omega, by omega, by omega, by rw [List.length_map, List.length_take]; omega⟩, ?_, by omega, by trivial⟩
      rw [cut_left l i (by omega), cut_right, hd, List.map_append]
  · exact hF.elim


noncomputable def gput6Cs : List (FuncId × Sx.Spec) := [(44, genSpec [pRo, none] placeF),
  (54, grow6Spec)]

theorem gput6_run (l : List Ro) (a b : BitVec 64) (k j : Int) (F : List Ro → List AV) (es : List AV) : run gput6Cs Try.prog 26 [.vsl 0 0 (l.map roE).length, .agg [.w64 a, .w64 b, .int .i64 k, .int .i64 j]] [some ⟨false, (pRo.getD (0, 0)).1, (pRo.getD (0, 0)).2, true, (l.map roE)⟩] (gpH F l ⟨⟨a, b, k⟩, j⟩) (yields (.vrow 48 4 es)) =
    ((0 : Nat) + List.length (List.map roE l) ≤ List.length (List.map roE l) ∧ List.take (List.length (List.map roE l)) (List.drop (0 : Nat) (List.map roE l)) = List.map roE (deR (List.take (List.length (List.map roE l)) (List.drop (0 : Nat) (List.map roE l)))) ∧ tbR (128 : Int) (deR (List.take (List.length (List.map roE l)) (List.drop (0 : Nat) (List.map roE l)))) = true ∧ (Option.isSome (fdR (deR (List.take (List.length (List.map roE l)) (List.drop (0 : Nat) (List.map roE l)))) (Pf.mk a b k)) = true → (↑(plN (deR (List.take (List.length (List.map roE l)) (List.drop (0 : Nat) (List.map roE l)))) (Pf.mk a b k)) : Int) = (↑(plN l (Pf.mk a b k)) : Int) ∧ plN l (Pf.mk a b k) < List.length (List.map roE l) + (1 : Nat) ∧ inRange IntKind.i64 ((↑(plN (deR (List.take (List.length (List.map roE l)) (List.drop (0 : Nat) (List.map roE l)))) (Pf.mk a b k)) : Int) + (1 : Int)) ∧ (↑(plN (deR (List.take (List.length (List.map roE l)) (List.drop (0 : Nat) (List.map roE l)))) (Pf.mk a b k)) : Int) + (1 : Int) = (↑(plN l (Pf.mk a b k) + (1 : Nat)) : Int) ∧ plN l (Pf.mk a b k) + (1 : Nat) < List.length (List.map roE l) + (1 : Nat) ∧ inRange IntKind.i64 ((0 : Int) + (↑(plN l (Pf.mk a b k) - (0 : Nat)) : Int)) ∧ Decidable.decide ((0 : Int) + (↑(plN l (Pf.mk a b k) - (0 : Nat)) : Int) < (0 : Int)) = false ∧ inRange IntKind.i64 ((0 : Int) + (↑(plN l (Pf.mk a b k) - (0 : Nat)) : Int) + (↑(1 : Nat) : Int)) ∧ Decidable.decide ((0 : Int) + (↑(plN l (Pf.mk a b k) - (0 : Nat)) : Int) + (↑(1 : Nat) : Int) < (0 : Int)) = false ∧ inRange IntKind.i64 ((0 : Int) + (↑(plN l (Pf.mk a b k) - (0 : Nat)) : Int) + (↑(1 : Nat) : Int) + (↑(List.length (List.map roE l) - (plN l (Pf.mk a b k) + (1 : Nat))) : Int)) ∧ Decidable.decide ((0 : Int) + (↑(plN l (Pf.mk a b k) - (0 : Nat)) : Int) + (↑(1 : Nat) : Int) + (↑(List.length (List.map roE l) - (plN l (Pf.mk a b k) + (1 : Nat))) : Int) < (0 : Int)) = false ∧ ((0 : Int) ≤ (0 : Int) + (↑(plN l (Pf.mk a b k) - (0 : Nat)) : Int) + (↑(1 : Nat) : Int) + (↑(List.length (List.map roE l) - (plN l (Pf.mk a b k) + (1 : Nat))) : Int) ∧ ((0 : Int) + (↑(plN l (Pf.mk a b k) - (0 : Nat)) : Int) + (↑(1 : Nat) : Int) + (↑(List.length (List.map roE l) - (plN l (Pf.mk a b k) + (1 : Nat))) : Int)) * (↑(32 : Nat) : Int) ≤ (140737488355328 : Int) ∧ (0 : Int) + (↑(plN l (Pf.mk a b k) - (0 : Nat)) : Int) + (↑(1 : Nat) : Int) + (↑(List.length (List.map roE l) - (plN l (Pf.mk a b k) + (1 : Nat))) : Int) ≤ (4611686018427387904 : Int)) ∧ (((0 : Nat) + (plN l (Pf.mk a b k) - (0 : Nat))) * (32 : Nat) ≤ (140737488355328 : Nat) ∧ (0 : Nat) + (plN l (Pf.mk a b k) - (0 : Nat)) ≤ (9223372036854775807 : Nat) ∧ (0 : Nat) + (0 : Nat) + (plN l (Pf.mk a b k) - (0 : Nat)) ≤ List.length (List.map roE l) ∧ (0 : Nat) ≤ List.length ([] : List AV)) ∧ [] ++ List.take (plN l (Pf.mk a b k) - (0 : Nat)) (List.drop ((0 : Nat) + (0 : Nat)) (List.map roE l)) = F (List.take (plN l (Pf.mk a b k)) l) ∧ (((0 : Nat) + (plN l (Pf.mk a b k) - (0 : Nat)) + (1 : Nat)) * (32 : Nat) ≤ (140737488355328 : Nat) ∧ (0 : Nat) + (plN l (Pf.mk a b k) - (0 : Nat)) + (1 : Nat) ≤ (9223372036854775807 : Nat) ∧ (0 : Nat) + (1 : Nat) ≤ List.length [AV.agg [AV.w64 a, AV.w64 b, AV.int IntKind.i64 k, AV.int IntKind.i64 j]] ∧ (0 : Nat) + (plN l (Pf.mk a b k) - (0 : Nat)) ≤ List.length (F (List.take (plN l (Pf.mk a b k)) l))) ∧ List.take ((0 : Nat) + (plN l (Pf.mk a b k) - (0 : Nat))) (F (List.take (plN l (Pf.mk a b k)) l)) ++ [AV.agg [AV.w64 a, AV.w64 b, AV.int IntKind.i64 k, AV.int IntKind.i64 j]] = F (List.take (plN l (Pf.mk a b k)) l ++ [Ro.mk (Pf.mk a b k) j]) ∧ (((0 : Nat) + (plN l (Pf.mk a b k) - (0 : Nat)) + (1 : Nat) + (List.length (List.map roE l) - (plN l (Pf.mk a b k) + (1 : Nat)))) * (32 : Nat) ≤ (140737488355328 : Nat) ∧ (0 : Nat) + (plN l (Pf.mk a b k) - (0 : Nat)) + (1 : Nat) + (List.length (List.map roE l) - (plN l (Pf.mk a b k) + (1 : Nat))) ≤ (9223372036854775807 : Nat) ∧ (0 : Nat) + (plN l (Pf.mk a b k) + (1 : Nat)) + (List.length (List.map roE l) - (plN l (Pf.mk a b k) + (1 : Nat))) ≤ List.length (List.map roE l) ∧ (0 : Nat) + (plN l (Pf.mk a b k) - (0 : Nat)) + (1 : Nat) ≤ List.length (F (List.take (plN l (Pf.mk a b k)) l ++ [Ro.mk (Pf.mk a b k) j]))) ∧ List.take ((0 : Nat) + (plN l (Pf.mk a b k) - (0 : Nat)) + (1 : Nat)) (F (List.take (plN l (Pf.mk a b k)) l ++ [Ro.mk (Pf.mk a b k) j])) ++ List.take (List.length (List.map roE l) - (plN l (Pf.mk a b k) + (1 : Nat))) (List.drop ((0 : Nat) + (plN l (Pf.mk a b k) + (1 : Nat))) (List.map roE l)) = F (ptR l (Ro.mk (Pf.mk a b k) j)) ∧ (0 : Nat) + (plN l (Pf.mk a b k) - (0 : Nat)) + (1 : Nat) + (List.length (List.map roE l) - (plN l (Pf.mk a b k) + (1 : Nat))) = List.length es ∧ some (Blk.mk true (48 : Nat) (4 : Nat) true (F (ptR l (Ro.mk (Pf.mk a b k) j)))) = some (Blk.mk true (48 : TypeId) (4 : Nat) true es)) ∧ (Option.isSome (fdR (deR (List.take (List.length (List.map roE l)) (List.drop (0 : Nat) (List.map roE l)))) (Pf.mk a b k)) = false → (↑(plN (deR (List.take (List.length (List.map roE l)) (List.drop (0 : Nat) (List.map roE l)))) (Pf.mk a b k)) : Int) = (↑(plN l (Pf.mk a b k)) : Int) ∧ plN l (Pf.mk a b k) < List.length (List.map roE l) + (1 : Nat) ∧ (↑(plN (deR (List.take (List.length (List.map roE l)) (List.drop (0 : Nat) (List.map roE l)))) (Pf.mk a b k)) : Int) = (↑(plN l (Pf.mk a b k)) : Int) ∧ plN l (Pf.mk a b k) < List.length (List.map roE l) + (1 : Nat) ∧ inRange IntKind.i64 ((0 : Int) + (↑(plN l (Pf.mk a b k) - (0 : Nat)) : Int)) ∧ Decidable.decide ((0 : Int) + (↑(plN l (Pf.mk a b k) - (0 : Nat)) : Int) < (0 : Int)) = false ∧ inRange IntKind.i64 ((0 : Int) + (↑(plN l (Pf.mk a b k) - (0 : Nat)) : Int) + (↑(1 : Nat) : Int)) ∧ Decidable.decide ((0 : Int) + (↑(plN l (Pf.mk a b k) - (0 : Nat)) : Int) + (↑(1 : Nat) : Int) < (0 : Int)) = false ∧ inRange IntKind.i64 ((0 : Int) + (↑(plN l (Pf.mk a b k) - (0 : Nat)) : Int) + (↑(1 : Nat) : Int) + (↑(List.length (List.map roE l) - plN l (Pf.mk a b k)) : Int)) ∧ Decidable.decide ((0 : Int) + (↑(plN l (Pf.mk a b k) - (0 : Nat)) : Int) + (↑(1 : Nat) : Int) + (↑(List.length (List.map roE l) - plN l (Pf.mk a b k)) : Int) < (0 : Int)) = false ∧ ((0 : Int) ≤ (0 : Int) + (↑(plN l (Pf.mk a b k) - (0 : Nat)) : Int) + (↑(1 : Nat) : Int) + (↑(List.length (List.map roE l) - plN l (Pf.mk a b k)) : Int) ∧ ((0 : Int) + (↑(plN l (Pf.mk a b k) - (0 : Nat)) : Int) + (↑(1 : Nat) : Int) + (↑(List.length (List.map roE l) - plN l (Pf.mk a b k)) : Int)) * (↑(32 : Nat) : Int) ≤ (140737488355328 : Int) ∧ (0 : Int) + (↑(plN l (Pf.mk a b k) - (0 : Nat)) : Int) + (↑(1 : Nat) : Int) + (↑(List.length (List.map roE l) - plN l (Pf.mk a b k)) : Int) ≤ (4611686018427387904 : Int)) ∧ (((0 : Nat) + (plN l (Pf.mk a b k) - (0 : Nat))) * (32 : Nat) ≤ (140737488355328 : Nat) ∧ (0 : Nat) + (plN l (Pf.mk a b k) - (0 : Nat)) ≤ (9223372036854775807 : Nat) ∧ (0 : Nat) + (0 : Nat) + (plN l (Pf.mk a b k) - (0 : Nat)) ≤ List.length (List.map roE l) ∧ (0 : Nat) ≤ List.length ([] : List AV)) ∧ [] ++ List.take (plN l (Pf.mk a b k) - (0 : Nat)) (List.drop ((0 : Nat) + (0 : Nat)) (List.map roE l)) = F (List.take (plN l (Pf.mk a b k)) l) ∧ (((0 : Nat) + (plN l (Pf.mk a b k) - (0 : Nat)) + (1 : Nat)) * (32 : Nat) ≤ (140737488355328 : Nat) ∧ (0 : Nat) + (plN l (Pf.mk a b k) - (0 : Nat)) + (1 : Nat) ≤ (9223372036854775807 : Nat) ∧ (0 : Nat) + (1 : Nat) ≤ List.length [AV.agg [AV.w64 a, AV.w64 b, AV.int IntKind.i64 k, AV.int IntKind.i64 j]] ∧ (0 : Nat) + (plN l (Pf.mk a b k) - (0 : Nat)) ≤ List.length (F (List.take (plN l (Pf.mk a b k)) l))) ∧ List.take ((0 : Nat) + (plN l (Pf.mk a b k) - (0 : Nat))) (F (List.take (plN l (Pf.mk a b k)) l)) ++ [AV.agg [AV.w64 a, AV.w64 b, AV.int IntKind.i64 k, AV.int IntKind.i64 j]] = F (List.take (plN l (Pf.mk a b k)) l ++ [Ro.mk (Pf.mk a b k) j]) ∧ (((0 : Nat) + (plN l (Pf.mk a b k) - (0 : Nat)) + (1 : Nat) + (List.length (List.map roE l) - plN l (Pf.mk a b k))) * (32 : Nat) ≤ (140737488355328 : Nat) ∧ (0 : Nat) + (plN l (Pf.mk a b k) - (0 : Nat)) + (1 : Nat) + (List.length (List.map roE l) - plN l (Pf.mk a b k)) ≤ (9223372036854775807 : Nat) ∧ (0 : Nat) + plN l (Pf.mk a b k) + (List.length (List.map roE l) - plN l (Pf.mk a b k)) ≤ List.length (List.map roE l) ∧ (0 : Nat) + (plN l (Pf.mk a b k) - (0 : Nat)) + (1 : Nat) ≤ List.length (F (List.take (plN l (Pf.mk a b k)) l ++ [Ro.mk (Pf.mk a b k) j]))) ∧ List.take ((0 : Nat) + (plN l (Pf.mk a b k) - (0 : Nat)) + (1 : Nat)) (F (List.take (plN l (Pf.mk a b k)) l ++ [Ro.mk (Pf.mk a b k) j])) ++ List.take (List.length (List.map roE l) - plN l (Pf.mk a b k)) (List.drop ((0 : Nat) + plN l (Pf.mk a b k)) (List.map roE l)) = F (ptR l (Ro.mk (Pf.mk a b k) j)) ∧ (0 : Nat) + (plN l (Pf.mk a b k) - (0 : Nat)) + (1 : Nat) + (List.length (List.map roE l) - plN l (Pf.mk a b k)) = List.length es ∧ some (Blk.mk true (48 : Nat) (4 : Nat) true (F (ptR l (Ro.mk (Pf.mk a b k) j)))) = some (Blk.mk true (48 : TypeId) (4 : Nat) true es))) := by kernel_rfl

theorem gput6Cs_ok : ∀ e ∈ gput6Cs, SpecOK Try.prog e.1 e.2 := by
  intro e he
  simp only [gput6Cs, List.mem_cons, List.not_mem_nil, or_false] at he
  rcases he with rfl | rfl
  · exact place6_ok
  · exact grow6_ok

theorem gput6_ok : SpecOK Try.prog 26 (genSpec [pRo, none] gputF) := by
  refine genSpec_ok (run_ok (l := gput6Cs) gput6Cs_ok mixed noNG) fun l R hF => ?_
  unfold gputF at hF
  split at hF
  · rename_i r_l a b k j
    obtain ⟨hr_l, hl, hF⟩ := hF
    generalize deR r_l = l at hr_l hl hF
    subst hr_l
    obtain ⟨hr, hF⟩ := hF
    refine ⟨_, hF, trivial, (gpH (List.map roE) l ⟨⟨a, b, k⟩, j⟩), ?_⟩
    show run gput6Cs Try.prog _ [.vsl 0 0 (l.map roE).length, .agg [.w64 a, .w64 b, .int .i64 k, .int .i64 j]] [some ⟨false, (pRo.getD (0, 0)).1, (pRo.getD (0, 0)).2, true, (l.map roE)⟩] _ _
    rw [gput6_run]
    have T := tbR_iff.1 hl
    have hm := T.most
    have hlen : (l.map roE).length = l.length := List.length_map _
    have hpl := (PlN_plN ⟨a, b, k⟩ l).1
    simp only [whole_row, deR_map]
    have hd := ptR_place T ⟨⟨a, b, k⟩, j⟩
    dsimp only at hd
    unfold bhN at hd
    refine ⟨by omega, trivial, hl, fun h => ?_, fun h => ?_⟩
    · rw [h, if_pos rfl] at hd
      have hi := (fd_some T h).1
      generalize plN l ⟨a, b, k⟩ = i at *
      have hdm : ((ptR l ⟨⟨a, b, k⟩, j⟩).map roE).length = (ptR l ⟨⟨a, b, k⟩, j⟩).length := List.length_map _
      have hdl : (ptR l ⟨⟨a, b, k⟩, j⟩).length = i + 1 + (l.length - (i + 1)) := by rw [hd, List.length_append, List.length_append, List.length_take, List.length_drop, List.length_cons, List.length_nil]; omega
      refine ⟨by trivial, by omega, inR (by omega) (by omega), by trivial, by omega, inR (by omega) (by omega), decide_eq_false (by omega), inR (by omega) (by omega), decide_eq_false (by omega), inR (by omega) (by omega), decide_eq_false (by omega), ⟨by omega, by omega, by omega⟩, ⟨by omega, by omega, by omega, Nat.zero_le _⟩, cut_first l i, ⟨by omega, by omega, Nat.le_refl _, by rw [List.length_map, List.length_take]; omega⟩, ?_, ⟨by omega, by omega, by omega, by rw [List.length_map, List.length_append, List.length_take, List.length_cons, List.length_nil]; omega⟩, ?_, by omega, by trivial⟩
      · rw [cut_left l i (by omega), List.map_append]; rfl
      · rw [cut_mid l _ i (by omega), cut_right, hd]; exact List.map_append.symm
    · rw [h, if_neg (by simp)] at hd
      generalize plN l ⟨a, b, k⟩ = i at *
      have hdm : ((ptR l ⟨⟨a, b, k⟩, j⟩).map roE).length = (ptR l ⟨⟨a, b, k⟩, j⟩).length := List.length_map _
      have hdl : (ptR l ⟨⟨a, b, k⟩, j⟩).length = i + 1 + (l.length - i) := by rw [hd, List.length_append, List.length_append, List.length_take, List.length_drop, List.length_cons, List.length_nil]; omega
      refine ⟨by trivial, by omega, by trivial, by omega, inR (by omega) (by omega), decide_eq_false (by omega), inR (by omega) (by omega), decide_eq_false (by omega), inR (by omega) (by omega), decide_eq_false (by omega), ⟨by omega, by omega, by omega⟩, ⟨by omega, by omega, by omega, Nat.zero_le _⟩, cut_first l i, ⟨by omega, by omega, Nat.le_refl _, by rw [List.length_map, List.length_take]; omega⟩, ?_, ⟨by omega, by omega, by omega, by rw [List.length_map, List.length_append, List.length_take, List.length_cons, List.length_nil]; omega⟩, ?_, by omega, by trivial⟩
      · rw [cut_left l i (by omega), List.map_append]; rfl
      · rw [cut_mid l _ i (by omega), cut_right, hd]; exact List.map_append.symm
  · exact hF.elim


noncomputable def pins6Cs : List (FuncId × Sx.Spec) := [(36, genSpec [none, none] coversF)]

theorem pins6_run (a b : BitVec 64) (k : Int) (c d : BitVec 64) (m : Int) (r : AV) : run pins6Cs Try.prog 46 [.agg [.w64 a, .w64 b, .int .i64 k], .agg [.w64 c, .w64 d, .int .i64 m]] [] [.fork [] []] (yields (.v r)) =
    (((!(a == c && b == d && k == m)) = true → AV.bool (Decidable.decide (m ≤ k) && matchB c d m a b) = r) ∧ ((!(a == c && b == d && k == m)) = false → AV.bool false = r)) := by kernel_rfl

theorem pins6Cs_ok : ∀ e ∈ pins6Cs, SpecOK Try.prog e.1 e.2 := by
  intro e he
  simp only [pins6Cs, List.mem_cons, List.not_mem_nil, or_false] at he
  rcases he with rfl
  · exact pcovers_ok

theorem pins6_ok : SpecOK Try.prog 46 (genSpec [none, none] pinsF) := by
  refine genSpec_ok (run_ok (l := pins6Cs) pins6Cs_ok mixed noNG) fun l R hF => ?_
  unfold pinsF at hF
  split at hF
  · rename_i a b k c d m
    refine ⟨_, hF, rfl, [.fork [] []], ?_⟩
    show run pins6Cs Try.prog _ [.agg [.w64 a, .w64 b, .int .i64 k], .agg [.w64 c, .w64 d, .int .i64 m]] [] _ _
    rw [pins6_run]
    have he : (a == c && b == d && k == m) = decide ((⟨a, b, k⟩ : Pf) = ⟨c, d, m⟩) := eqPf ⟨a, b, k⟩ c d m
    have e : ovP ⟨c, d, m⟩ ⟨a, b, k⟩ = (!decide ((⟨a, b, k⟩ : Pf) = ⟨c, d, m⟩) && cvP ⟨c, d, m⟩ ⟨a, b, k⟩) := rfl
    rw [he]
    refine ⟨fun h => ?_, fun h => ?_⟩
    · rw [e, h, Bool.true_and]; rfl
    · rw [e, h, Bool.false_and]
  · exact hF.elim


noncomputable def gbest6Cs : List (FuncId × Sx.Spec) := [(40, genSpec [none, none] matchF)]

theorem gbest6_run (l : List Ro) (c d : BitVec 64) (r : AV) : run gbest6Cs Try.prog 21 [.vsl 0 0 (l.map roE).length, .agg [.w64 c, .w64 d]] [some ⟨false, (pRo.getD (0, 0)).1, (pRo.getD (0, 0)).2, true, (l.map roE)⟩] (lgH bsFn (bsBox c d) (fun x => mtP x.p c d) l) (yields (.v r)) =
    ((St.mk [AV.any, AV.func (Fn.func (39 : Nat)) [] [AV.ptr ((0 : Nat) + (1 : Nat)) (0 : Nat) (0 : Nat) true], AV.any, AV.any, AV.ptr ((0 : Nat) + (1 : Nat) + (1 : Nat) + (1 : Nat)) (0 : Nat) (0 : Nat) true, AV.any, AV.ptr ((0 : Nat) + (1 : Nat) + (1 : Nat) + (1 : Nat) + (1 : Nat)) (0 : Nat) (0 : Nat) true, AV.bool false, AV.any, AV.any, AV.any, AV.vsl (0 : Nat) (0 : Nat) (List.length (List.map roE l)), AV.int IntKind.i64 (↑(List.length (List.map roE l)) : Int), AV.int IntKind.i64 (0 : Int), AV.any, AV.any, AV.any, AV.any, AV.any, AV.any, AV.any, AV.any, AV.any, AV.any, AV.any, AV.any, AV.any, AV.any, AV.any, AV.any, AV.any, AV.any, AV.any, AV.any, AV.any, AV.any, AV.any, AV.any, AV.any] [some (Blk.mk false (nat_lit 48) (4 : Nat) true (List.map roE l)), some (Blk.mk true (25 : Nat) (2 : Nat) true [AV.agg [AV.w64 c, AV.w64 d]]), some (Blk.mk true (nat_lit 48) (4 : Nat) true [AV.agg [AV.w64 (BitVec.ofInt (64 : Nat) (0 : Int)), AV.w64 (BitVec.ofInt (64 : Nat) (0 : Int)), AV.int IntKind.i64 (0 : Int), AV.int IntKind.i64 (0 : Int)]]), some (Blk.mk true (nat_lit 48) (4 : Nat) true [AV.agg [AV.w64 (BitVec.ofInt (64 : Nat) (0 : Int)), AV.w64 (BitVec.ofInt (64 : Nat) (0 : Int)), AV.int IntKind.i64 (0 : Int), AV.int IntKind.i64 (0 : Int)]]), some (Blk.mk true (nat_lit 48) (4 : Nat) true [AV.agg [AV.w64 (BitVec.ofInt (64 : Nat) (0 : Int)), AV.w64 (BitVec.ofInt (64 : Nat) (0 : Int)), AV.int IntKind.i64 (0 : Int), AV.int IntKind.i64 (0 : Int)]])] = lgSt (AV.func (Fn.func (39 : FuncId)) [] [AV.ptr (1 : Nat) (0 : Nat) (0 : Nat) true]) (Blk.mk true (25 : TypeId) (2 : Nat) true [AV.agg [AV.w64 c, AV.w64 d]]) (fun (x : Ro) => mtP x.1 c d) l (0 : Nat) ∧ Nat.le (0 : Nat) (List.length l)) ∧ ∀ (p : Nat), Nat.le p (List.length l) → (Decidable.decide ((↑p : Int) < (↑(List.length (List.map roE l)) : Int)) = true → ((0 : Int) ≤ (↑p : Int) ∧ (↑p : Int) < (↑(List.length (List.map roE l)) : Int)) ∧ Blk.read Proofs.Try.prog (Blk.mk false (48 : TypeId) (4 : Nat) true (List.map roE l)) (48 : Nat) ((0 : Nat) + Int.toNat (↑p : Int)) (0 : Nat) = some (AV.agg [AV.w64 (Ro.p (at' l p)).1, AV.w64 (Ro.p (at' l p)).2, AV.int IntKind.i64 (Ro.p (at' l p)).3, AV.int IntKind.i64 (at' l p).2]) ∧ ((!Decidable.decide (kpX (fun (x : Ro) => mtP x.1 c d) l p ≥ (0 : Int))) = true → (matchB (Ro.p (at' l p)).1 (Ro.p (at' l p)).2 (Ro.p (at' l p)).3 c d = true → inRange IntKind.i64 ((↑p : Int) + (1 : Int)) ∧ ∃ (p' : Nat), St.mk [AV.any, AV.func (Fn.func (39 : FuncId)) [] [AV.ptr ((0 : Nat) + (1 : Nat)) (0 : Nat) (0 : Nat) true], AV.any, AV.any, AV.ptr ((0 : Nat) + (1 : Nat) + (1 : Nat) + (1 : Nat)) (0 : Nat) (0 : Nat) true, AV.any, AV.ptr ((0 : Nat) + (1 : Nat) + (1 : Nat) + (1 : Nat) + (1 : Nat)) (0 : Nat) (0 : Nat) true, AV.bool true, AV.any, AV.any, AV.any, AV.vsl (0 : Nat) (0 : Nat) (List.length (List.map roE l)), AV.int IntKind.i64 (↑(List.length (List.map roE l)) : Int), AV.int IntKind.i64 ((↑p : Int) + (1 : Int)), AV.any, AV.any, AV.any, AV.any, AV.any, AV.any, AV.any, AV.any, AV.any, AV.any, AV.any, AV.any, AV.any, AV.any, AV.any, AV.any, AV.any, AV.any, AV.any, AV.any, AV.any, AV.any, AV.any, AV.any, AV.any] [some (Blk.mk false (48 : TypeId) (4 : Nat) true (List.map roE l)), some (Blk.mk true (25 : TypeId) (2 : Nat) true [AV.agg [AV.w64 c, AV.w64 d]]), some (Blk.mk true (nat_lit 48) (4 : Nat) true [AV.agg [AV.w64 (BitVec.ofNat (64 : Nat) (0 : Nat)), AV.w64 (BitVec.ofNat (64 : Nat) (0 : Nat)), AV.int IntKind.i64 (0 : Int), AV.int IntKind.i64 (0 : Int)]]), some (Blk.mk true (nat_lit 48) (4 : Nat) true [AV.agg [AV.w64 (BitVec.ofNat (64 : Nat) (0 : Nat)), AV.w64 (BitVec.ofNat (64 : Nat) (0 : Nat)), AV.int IntKind.i64 (0 : Int), AV.int IntKind.i64 (0 : Int)]]), some (Blk.mk true (nat_lit 48) (4 : Nat) true [AV.agg [AV.w64 (Ro.p (at' l p)).1, AV.w64 (Ro.p (at' l p)).2, AV.int IntKind.i64 (Ro.p (at' l p)).3, AV.int IntKind.i64 (at' l p).2]])] = lgSt (AV.func (Fn.func (39 : FuncId)) [] [AV.ptr (1 : Nat) (0 : Nat) (0 : Nat) true]) (Blk.mk true (25 : TypeId) (2 : Nat) true [AV.agg [AV.w64 c, AV.w64 d]]) (fun (x : Ro) => mtP x.1 c d) l p' ∧ Nat.le p' (List.length l) ∧ List.length l + (1 : Nat) - p' < List.length l + (1 : Nat) - p) ∧ (matchB (Ro.p (at' l p)).1 (Ro.p (at' l p)).2 (Ro.p (at' l p)).3 c d = false → inRange IntKind.i64 ((↑p : Int) + (1 : Int)) ∧ ∃ (p' : Nat), St.mk [AV.any, AV.func (Fn.func (39 : FuncId)) [] [AV.ptr ((0 : Nat) + (1 : Nat)) (0 : Nat) (0 : Nat) true], AV.any, AV.any, AV.ptr ((0 : Nat) + (1 : Nat) + (1 : Nat) + (1 : Nat)) (0 : Nat) (0 : Nat) true, AV.any, AV.ptr ((0 : Nat) + (1 : Nat) + (1 : Nat) + (1 : Nat) + (1 : Nat)) (0 : Nat) (0 : Nat) true, AV.bool (Decidable.decide (kpX (fun (x : Ro) => mtP x.1 c d) l p ≥ (0 : Int))), AV.any, AV.any, AV.any, AV.vsl (0 : Nat) (0 : Nat) (List.length (List.map roE l)), AV.int IntKind.i64 (↑(List.length (List.map roE l)) : Int), AV.int IntKind.i64 ((↑p : Int) + (1 : Int)), AV.any, AV.any, AV.any, AV.any, AV.any, AV.any, AV.any, AV.any, AV.any, AV.any, AV.any, AV.any, AV.any, AV.any, AV.any, AV.any, AV.any, AV.any, AV.any, AV.any, AV.any, AV.any, AV.any, AV.any, AV.any] [some (Blk.mk false (48 : TypeId) (4 : Nat) true (List.map roE l)), some (Blk.mk true (25 : TypeId) (2 : Nat) true [AV.agg [AV.w64 c, AV.w64 d]]), some (Blk.mk true (nat_lit 48) (4 : Nat) true [AV.agg [AV.w64 (BitVec.ofNat (64 : Nat) (0 : Nat)), AV.w64 (BitVec.ofNat (64 : Nat) (0 : Nat)), AV.int IntKind.i64 (0 : Int), AV.int IntKind.i64 (0 : Int)]]), some (Blk.mk true (nat_lit 48) (4 : Nat) true [AV.agg [AV.w64 (BitVec.ofNat (64 : Nat) (0 : Nat)), AV.w64 (BitVec.ofNat (64 : Nat) (0 : Nat)), AV.int IntKind.i64 (0 : Int), AV.int IntKind.i64 (0 : Int)]]), some (Blk.mk true (nat_lit 48) (4 : Nat) true [AV.agg [AV.w64 (Ro.p (kxR (fun (x : Ro) => mtP (Ro.p x) c d) l p)).1, AV.w64 (Ro.p (kxR (fun (x : Ro) => mtP (Ro.p x) c d) l p)).2, AV.int IntKind.i64 (Ro.p (kxR (fun (x : Ro) => mtP (Ro.p x) c d) l p)).3, AV.int IntKind.i64 (kxR (fun (x : Ro) => mtP (Ro.p x) c d) l p).2]])] = lgSt (AV.func (Fn.func (39 : FuncId)) [] [AV.ptr (1 : Nat) (0 : Nat) (0 : Nat) true]) (Blk.mk true (25 : TypeId) (2 : Nat) true [AV.agg [AV.w64 c, AV.w64 d]]) (fun (x : Ro) => mtP x.1 c d) l p' ∧ Nat.le p' (List.length l) ∧ List.length l + (1 : Nat) - p' < List.length l + (1 : Nat) - p)) ∧ ((!Decidable.decide (kpX (fun (x : Ro) => mtP x.1 c d) l p ≥ (0 : Int))) = false → (Decidable.decide ((Ro.p (at' l p)).3 > (Ro.p (kxR (fun (x : Ro) => mtP (Ro.p x) c d) l p)).3) = true → (matchB (Ro.p (at' l p)).1 (Ro.p (at' l p)).2 (Ro.p (at' l p)).3 c d = true → inRange IntKind.i64 ((↑p : Int) + (1 : Int)) ∧ ∃ (p' : Nat), St.mk [AV.any, AV.func (Fn.func (39 : FuncId)) [] [AV.ptr ((0 : Nat) + (1 : Nat)) (0 : Nat) (0 : Nat) true], AV.any, AV.any, AV.ptr ((0 : Nat) + (1 : Nat) + (1 : Nat) + (1 : Nat)) (0 : Nat) (0 : Nat) true, AV.any, AV.ptr ((0 : Nat) + (1 : Nat) + (1 : Nat) + (1 : Nat) + (1 : Nat)) (0 : Nat) (0 : Nat) true, AV.bool true, AV.any, AV.any, AV.any, AV.vsl (0 : Nat) (0 : Nat) (List.length (List.map roE l)), AV.int IntKind.i64 (↑(List.length (List.map roE l)) : Int), AV.int IntKind.i64 ((↑p : Int) + (1 : Int)), AV.any, AV.any, AV.any, AV.any, AV.any, AV.any, AV.any, AV.any, AV.any, AV.any, AV.any, AV.any, AV.any, AV.any, AV.any, AV.any, AV.any, AV.any, AV.any, AV.any, AV.any, AV.any, AV.any, AV.any, AV.any] [some (Blk.mk false (48 : TypeId) (4 : Nat) true (List.map roE l)), some (Blk.mk true (25 : TypeId) (2 : Nat) true [AV.agg [AV.w64 c, AV.w64 d]]), some (Blk.mk true (nat_lit 48) (4 : Nat) true [AV.agg [AV.w64 (BitVec.ofNat (64 : Nat) (0 : Nat)), AV.w64 (BitVec.ofNat (64 : Nat) (0 : Nat)), AV.int IntKind.i64 (0 : Int), AV.int IntKind.i64 (0 : Int)]]), some (Blk.mk true (nat_lit 48) (4 : Nat) true [AV.agg [AV.w64 (BitVec.ofNat (64 : Nat) (0 : Nat)), AV.w64 (BitVec.ofNat (64 : Nat) (0 : Nat)), AV.int IntKind.i64 (0 : Int), AV.int IntKind.i64 (0 : Int)]]), some (Blk.mk true (nat_lit 48) (4 : Nat) true [AV.agg [AV.w64 (Ro.p (at' l p)).1, AV.w64 (Ro.p (at' l p)).2, AV.int IntKind.i64 (Ro.p (at' l p)).3, AV.int IntKind.i64 (at' l p).2]])] = lgSt (AV.func (Fn.func (39 : FuncId)) [] [AV.ptr (1 : Nat) (0 : Nat) (0 : Nat) true]) (Blk.mk true (25 : TypeId) (2 : Nat) true [AV.agg [AV.w64 c, AV.w64 d]]) (fun (x : Ro) => mtP x.1 c d) l p' ∧ Nat.le p' (List.length l) ∧ List.length l + (1 : Nat) - p' < List.length l + (1 : Nat) - p) ∧ (matchB (Ro.p (at' l p)).1 (Ro.p (at' l p)).2 (Ro.p (at' l p)).3 c d = false → inRange IntKind.i64 ((↑p : Int) + (1 : Int)) ∧ ∃ (p' : Nat), St.mk [AV.any, AV.func (Fn.func (39 : FuncId)) [] [AV.ptr ((0 : Nat) + (1 : Nat)) (0 : Nat) (0 : Nat) true], AV.any, AV.any, AV.ptr ((0 : Nat) + (1 : Nat) + (1 : Nat) + (1 : Nat)) (0 : Nat) (0 : Nat) true, AV.any, AV.ptr ((0 : Nat) + (1 : Nat) + (1 : Nat) + (1 : Nat) + (1 : Nat)) (0 : Nat) (0 : Nat) true, AV.bool (Decidable.decide (kpX (fun (x : Ro) => mtP x.1 c d) l p ≥ (0 : Int))), AV.any, AV.any, AV.any, AV.vsl (0 : Nat) (0 : Nat) (List.length (List.map roE l)), AV.int IntKind.i64 (↑(List.length (List.map roE l)) : Int), AV.int IntKind.i64 ((↑p : Int) + (1 : Int)), AV.any, AV.any, AV.any, AV.any, AV.any, AV.any, AV.any, AV.any, AV.any, AV.any, AV.any, AV.any, AV.any, AV.any, AV.any, AV.any, AV.any, AV.any, AV.any, AV.any, AV.any, AV.any, AV.any, AV.any, AV.any] [some (Blk.mk false (48 : TypeId) (4 : Nat) true (List.map roE l)), some (Blk.mk true (25 : TypeId) (2 : Nat) true [AV.agg [AV.w64 c, AV.w64 d]]), some (Blk.mk true (nat_lit 48) (4 : Nat) true [AV.agg [AV.w64 (BitVec.ofNat (64 : Nat) (0 : Nat)), AV.w64 (BitVec.ofNat (64 : Nat) (0 : Nat)), AV.int IntKind.i64 (0 : Int), AV.int IntKind.i64 (0 : Int)]]), some (Blk.mk true (nat_lit 48) (4 : Nat) true [AV.agg [AV.w64 (BitVec.ofNat (64 : Nat) (0 : Nat)), AV.w64 (BitVec.ofNat (64 : Nat) (0 : Nat)), AV.int IntKind.i64 (0 : Int), AV.int IntKind.i64 (0 : Int)]]), some (Blk.mk true (nat_lit 48) (4 : Nat) true [AV.agg [AV.w64 (Ro.p (kxR (fun (x : Ro) => mtP (Ro.p x) c d) l p)).1, AV.w64 (Ro.p (kxR (fun (x : Ro) => mtP (Ro.p x) c d) l p)).2, AV.int IntKind.i64 (Ro.p (kxR (fun (x : Ro) => mtP (Ro.p x) c d) l p)).3, AV.int IntKind.i64 (kxR (fun (x : Ro) => mtP (Ro.p x) c d) l p).2]])] = lgSt (AV.func (Fn.func (39 : FuncId)) [] [AV.ptr (1 : Nat) (0 : Nat) (0 : Nat) true]) (Blk.mk true (25 : TypeId) (2 : Nat) true [AV.agg [AV.w64 c, AV.w64 d]]) (fun (x : Ro) => mtP x.1 c d) l p' ∧ Nat.le p' (List.length l) ∧ List.length l + (1 : Nat) - p' < List.length l + (1 : Nat) - p)) ∧ (Decidable.decide ((Ro.p (at' l p)).3 > (Ro.p (kxR (fun (x : Ro) => mtP (Ro.p x) c d) l p)).3) = false → inRange IntKind.i64 ((↑p : Int) + (1 : Int)) ∧ ∃ (p' : Nat), St.mk [AV.any, AV.func (Fn.func (39 : FuncId)) [] [AV.ptr ((0 : Nat) + (1 : Nat)) (0 : Nat) (0 : Nat) true], AV.any, AV.any, AV.ptr ((0 : Nat) + (1 : Nat) + (1 : Nat) + (1 : Nat)) (0 : Nat) (0 : Nat) true, AV.any, AV.ptr ((0 : Nat) + (1 : Nat) + (1 : Nat) + (1 : Nat) + (1 : Nat)) (0 : Nat) (0 : Nat) true, AV.bool (Decidable.decide (kpX (fun (x : Ro) => mtP x.1 c d) l p ≥ (0 : Int))), AV.any, AV.any, AV.any, AV.vsl (0 : Nat) (0 : Nat) (List.length (List.map roE l)), AV.int IntKind.i64 (↑(List.length (List.map roE l)) : Int), AV.int IntKind.i64 ((↑p : Int) + (1 : Int)), AV.any, AV.any, AV.any, AV.any, AV.any, AV.any, AV.any, AV.any, AV.any, AV.any, AV.any, AV.any, AV.any, AV.any, AV.any, AV.any, AV.any, AV.any, AV.any, AV.any, AV.any, AV.any, AV.any, AV.any, AV.any] [some (Blk.mk false (48 : TypeId) (4 : Nat) true (List.map roE l)), some (Blk.mk true (25 : TypeId) (2 : Nat) true [AV.agg [AV.w64 c, AV.w64 d]]), some (Blk.mk true (nat_lit 48) (4 : Nat) true [AV.agg [AV.w64 (BitVec.ofNat (64 : Nat) (0 : Nat)), AV.w64 (BitVec.ofNat (64 : Nat) (0 : Nat)), AV.int IntKind.i64 (0 : Int), AV.int IntKind.i64 (0 : Int)]]), some (Blk.mk true (nat_lit 48) (4 : Nat) true [AV.agg [AV.w64 (BitVec.ofNat (64 : Nat) (0 : Nat)), AV.w64 (BitVec.ofNat (64 : Nat) (0 : Nat)), AV.int IntKind.i64 (0 : Int), AV.int IntKind.i64 (0 : Int)]]), some (Blk.mk true (nat_lit 48) (4 : Nat) true [AV.agg [AV.w64 (Ro.p (kxR (fun (x : Ro) => mtP (Ro.p x) c d) l p)).1, AV.w64 (Ro.p (kxR (fun (x : Ro) => mtP (Ro.p x) c d) l p)).2, AV.int IntKind.i64 (Ro.p (kxR (fun (x : Ro) => mtP (Ro.p x) c d) l p)).3, AV.int IntKind.i64 (kxR (fun (x : Ro) => mtP (Ro.p x) c d) l p).2]])] = lgSt (AV.func (Fn.func (39 : FuncId)) [] [AV.ptr (1 : Nat) (0 : Nat) (0 : Nat) true]) (Blk.mk true (25 : TypeId) (2 : Nat) true [AV.agg [AV.w64 c, AV.w64 d]]) (fun (x : Ro) => mtP x.1 c d) l p' ∧ Nat.le p' (List.length l) ∧ List.length l + (1 : Nat) - p' < List.length l + (1 : Nat) - p))) ∧ (Decidable.decide ((↑p : Int) < (↑(List.length (List.map roE l)) : Int)) = false → AV.tuple [AV.agg [AV.w64 (Ro.p (kxR (fun (x : Ro) => mtP (Ro.p x) c d) l p)).1, AV.w64 (Ro.p (kxR (fun (x : Ro) => mtP (Ro.p x) c d) l p)).2, AV.int IntKind.i64 (Ro.p (kxR (fun (x : Ro) => mtP (Ro.p x) c d) l p)).3, AV.int IntKind.i64 (kxR (fun (x : Ro) => mtP (Ro.p x) c d) l p).2], AV.bool (Decidable.decide (kpX (fun (x : Ro) => mtP x.1 c d) l p ≥ (0 : Int)))] = r)) := by kernel_rfl

theorem gbest6Cs_ok : ∀ e ∈ gbest6Cs, SpecOK Try.prog e.1 e.2 := by
  intro e he
  simp only [gbest6Cs, List.mem_cons, List.not_mem_nil, or_false] at he
  rcases he with rfl
  · exact pmatch_ok

theorem gbest6_ok : SpecOK Try.prog 21 (genSpec [pRo, none] gbestF) := by
  refine genSpec_ok (run_ok (l := gbest6Cs) gbest6Cs_ok mixed noNG) fun l R hF => ?_
  unfold gbestF at hF
  split at hF
  · rename_i r_l c d
    obtain ⟨hr_l, hl, hF⟩ := hF
    generalize deR r_l = l at hr_l hl hF
    subst hr_l
    refine ⟨_, hF, rfl, (lgH bsFn (bsBox c d) (fun x => mtP x.p c d) l), ?_⟩
    show run gbest6Cs Try.prog _ [.vsl 0 0 (l.map roE).length, .agg [.w64 c, .w64 d]] [some ⟨false, (pRo.getD (0, 0)).1, (pRo.getD (0, 0)).2, true, (l.map roE)⟩] _ _
    rw [gbest6_run]
    have T := tbR_iff.1 hl
    have hm := T.most
    refine ⟨⟨rfl, Nat.zero_le _⟩, ?_⟩
    intro p hp0
    have hp0 : p ≤ l.length := hp0
    refine ⟨fun hlt => ?_, fun hge => ?_⟩
    · have hp : p < l.length := by simp only [decide_eq_true_eq, List.length_map] at hlt; omega
      have B : 0 ≤ (p : Int) ∧ (p : Int) < ((l.map roE).length : Int) := by rw [List.length_map]; omega
      have i1 : inRange .i64 ((p : Int) + 1) := inR (by omega) (by omega)
      refine ⟨B, read_rows B.1 B.2 (ro_whole _), fun hn => ⟨fun hk => ?_, fun hk => ?_⟩, fun hn => ⟨fun hg => ⟨fun hk => ?_, fun hk => ?_⟩, fun hg => ?_⟩⟩
      · have hn : ¬ kpX (fun x => mtP x.p c d) l p ≥ 0 := by simpa using hn
        have e := kp_yes (ok := (fun x => mtP x.p c d)) (.inl (by omega)) hk
        exact ⟨i1, p + 1, by unfold lgSt; rw [e.1, e.2]; rfl, hp, by omega⟩
      · have e := kp_no (ok := (fun x => mtP x.p c d)) (.inl hk)
        exact ⟨i1, p + 1, by unfold lgSt; rw [e.1, e.2]; rfl, hp, by omega⟩
      · have e := kp_yes (ok := (fun x => mtP x.p c d)) (.inr (of_decide_eq_true hg)) hk
        exact ⟨i1, p + 1, by unfold lgSt; rw [e.1, e.2]; rfl, hp, by omega⟩
      · have e := kp_no (ok := (fun x => mtP x.p c d)) (.inl hk)
        exact ⟨i1, p + 1, by unfold lgSt; rw [e.1, e.2]; rfl, hp, by omega⟩
      · have hn : kpX (fun x => mtP x.p c d) l p ≥ 0 := by simpa using hn
        have e := kp_no (ok := (fun x => mtP x.p c d)) (.inr ⟨hn, of_decide_eq_false hg⟩)
        exact ⟨i1, p + 1, by unfold lgSt; rw [e.1, e.2]; rfl, hp, by omega⟩
    · have hp : p = l.length := by simp only [decide_eq_false_iff_not, List.length_map] at hge; omega
      subst hp
      have e := kp_end (ok := (fun x => mtP x.p c d)) (bsR_scan T (fbX_spec _ _ _ _))
      rw [e.1, e.2]
  · exact hF.elim


noncomputable def gtell6Cs : List (FuncId × Sx.Spec) := [(21, genSpec [pRo, none] gbestF)]

theorem gtell6_run (l : List Ro) (c d : BitVec 64) (r : AV) : run gtell6Cs Try.prog 19 [.vsl 0 0 (l.map roE).length, .agg [.w64 c, .w64 d]] [some ⟨false, (pRo.getD (0, 0)).1, (pRo.getD (0, 0)).2, true, (l.map roE)⟩] [] (yields (.v r)) =
    ((0 : Nat) + List.length (List.map roE l) ≤ List.length (List.map roE l) ∧ List.take (List.length (List.map roE l)) (List.drop (0 : Nat) (List.map roE l)) = List.map roE (deR (List.take (List.length (List.map roE l)) (List.drop (0 : Nat) (List.map roE l)))) ∧ tbR (128 : Int) (deR (List.take (List.length (List.map roE l)) (List.drop (0 : Nat) (List.map roE l)))) = true ∧ AV.int IntKind.i64 (roO (bsR (deR (List.take (List.length (List.map roE l)) (List.drop (0 : Nat) (List.map roE l)))) c d)).2 = r) := by kernel_rfl

theorem gtell6Cs_ok : ∀ e ∈ gtell6Cs, SpecOK Try.prog e.1 e.2 := by
  intro e he
  simp only [gtell6Cs, List.mem_cons, List.not_mem_nil, or_false] at he
  rcases he with rfl
  · exact gbest6_ok

theorem gtell6_ok : SpecOK Try.prog 19 (genSpec [pRo, none] gtellF) := by
  refine genSpec_ok (run_ok (l := gtell6Cs) gtell6Cs_ok mixed noNG) fun l R hF => ?_
  unfold gtellF at hF
  split at hF
  · rename_i r_l c d
    obtain ⟨hr_l, hl, hF⟩ := hF
    generalize deR r_l = l at hr_l hl hF
    subst hr_l
    refine ⟨_, hF, rfl, [], ?_⟩
    show run gtell6Cs Try.prog _ [.vsl 0 0 (l.map roE).length, .agg [.w64 c, .w64 d]] [some ⟨false, (pRo.getD (0, 0)).1, (pRo.getD (0, 0)).2, true, (l.map roE)⟩] _ _
    rw [gtell6_run]
    simp only [whole_row, deR_map]
    refine ⟨by omega, trivial, hl, ?_⟩
    unfold tlR
    cases hb : bsR l c d <;> rfl
  · exact hF.elim


noncomputable def gcover6Cs : List (FuncId × Sx.Spec) := [(46, genSpec [none, none] pinsF)]

theorem gcover6_run (l : List Ro) (a b : BitVec 64) (k : Int) (r : AV) : run gcover6Cs Try.prog 25 [.vsl 0 0 (l.map roE).length, .agg [.w64 a, .w64 b, .int .i64 k]] [some ⟨false, (pRo.getD (0, 0)).1, (pRo.getD (0, 0)).2, true, (l.map roE)⟩] (lgH cvFn (cvBox a b k) (fun x => ovP x.p ⟨a, b, k⟩) l) (yields (.v r)) =
    ((St.mk [AV.any, AV.func (Fn.func (45 : Nat)) [] [AV.ptr ((0 : Nat) + (1 : Nat)) (0 : Nat) (0 : Nat) true], AV.any, AV.any, AV.ptr ((0 : Nat) + (1 : Nat) + (1 : Nat) + (1 : Nat)) (0 : Nat) (0 : Nat) true, AV.any, AV.ptr ((0 : Nat) + (1 : Nat) + (1 : Nat) + (1 : Nat) + (1 : Nat)) (0 : Nat) (0 : Nat) true, AV.bool false, AV.any, AV.any, AV.any, AV.vsl (0 : Nat) (0 : Nat) (List.length (List.map roE l)), AV.int IntKind.i64 (↑(List.length (List.map roE l)) : Int), AV.int IntKind.i64 (0 : Int), AV.any, AV.any, AV.any, AV.any, AV.any, AV.any, AV.any, AV.any, AV.any, AV.any, AV.any, AV.any, AV.any, AV.any, AV.any, AV.any, AV.any, AV.any, AV.any, AV.any, AV.any, AV.any, AV.any, AV.any, AV.any] [some (Blk.mk false (nat_lit 48) (4 : Nat) true (List.map roE l)), some (Blk.mk true (27 : Nat) (3 : Nat) true [AV.agg [AV.w64 a, AV.w64 b, AV.int IntKind.i64 k]]), some (Blk.mk true (nat_lit 48) (4 : Nat) true [AV.agg [AV.w64 (BitVec.ofInt (64 : Nat) (0 : Int)), AV.w64 (BitVec.ofInt (64 : Nat) (0 : Int)), AV.int IntKind.i64 (0 : Int), AV.int IntKind.i64 (0 : Int)]]), some (Blk.mk true (nat_lit 48) (4 : Nat) true [AV.agg [AV.w64 (BitVec.ofInt (64 : Nat) (0 : Int)), AV.w64 (BitVec.ofInt (64 : Nat) (0 : Int)), AV.int IntKind.i64 (0 : Int), AV.int IntKind.i64 (0 : Int)]]), some (Blk.mk true (nat_lit 48) (4 : Nat) true [AV.agg [AV.w64 (BitVec.ofInt (64 : Nat) (0 : Int)), AV.w64 (BitVec.ofInt (64 : Nat) (0 : Int)), AV.int IntKind.i64 (0 : Int), AV.int IntKind.i64 (0 : Int)]])] = lgSt (AV.func (Fn.func (45 : FuncId)) [] [AV.ptr (1 : Nat) (0 : Nat) (0 : Nat) true]) (Blk.mk true (27 : TypeId) (3 : Nat) true [AV.agg [AV.w64 a, AV.w64 b, AV.int IntKind.i64 k]]) (fun (x : Ro) => ovP x.1 (Pf.mk a b k)) l (0 : Nat) ∧ Nat.le (0 : Nat) (List.length l)) ∧ ∀ (p : Nat), Nat.le p (List.length l) → (Decidable.decide ((↑p : Int) < (↑(List.length (List.map roE l)) : Int)) = true → ((0 : Int) ≤ (↑p : Int) ∧ (↑p : Int) < (↑(List.length (List.map roE l)) : Int)) ∧ Blk.read Proofs.Try.prog (Blk.mk false (48 : TypeId) (4 : Nat) true (List.map roE l)) (48 : Nat) ((0 : Nat) + Int.toNat (↑p : Int)) (0 : Nat) = some (AV.agg [AV.w64 (Ro.p (at' l p)).1, AV.w64 (Ro.p (at' l p)).2, AV.int IntKind.i64 (Ro.p (at' l p)).3, AV.int IntKind.i64 (at' l p).2]) ∧ ((!Decidable.decide (kpX (fun (x : Ro) => ovP x.1 (Pf.mk a b k)) l p ≥ (0 : Int))) = true → (ovP (Pf.mk (Ro.p (at' l p)).1 (Ro.p (at' l p)).2 (Ro.p (at' l p)).3) (Pf.mk a b k) = true → inRange IntKind.i64 ((↑p : Int) + (1 : Int)) ∧ ∃ (p' : Nat), St.mk [AV.any, AV.func (Fn.func (45 : FuncId)) [] [AV.ptr ((0 : Nat) + (1 : Nat)) (0 : Nat) (0 : Nat) true], AV.any, AV.any, AV.ptr ((0 : Nat) + (1 : Nat) + (1 : Nat) + (1 : Nat)) (0 : Nat) (0 : Nat) true, AV.any, AV.ptr ((0 : Nat) + (1 : Nat) + (1 : Nat) + (1 : Nat) + (1 : Nat)) (0 : Nat) (0 : Nat) true, AV.bool true, AV.any, AV.any, AV.any, AV.vsl (0 : Nat) (0 : Nat) (List.length (List.map roE l)), AV.int IntKind.i64 (↑(List.length (List.map roE l)) : Int), AV.int IntKind.i64 ((↑p : Int) + (1 : Int)), AV.any, AV.any, AV.any, AV.any, AV.any, AV.any, AV.any, AV.any, AV.any, AV.any, AV.any, AV.any, AV.any, AV.any, AV.any, AV.any, AV.any, AV.any, AV.any, AV.any, AV.any, AV.any, AV.any, AV.any, AV.any] [some (Blk.mk false (48 : TypeId) (4 : Nat) true (List.map roE l)), some (Blk.mk true (27 : TypeId) (3 : Nat) true [AV.agg [AV.w64 a, AV.w64 b, AV.int IntKind.i64 k]]), some (Blk.mk true (nat_lit 48) (4 : Nat) true [AV.agg [AV.w64 (BitVec.ofNat (64 : Nat) (0 : Nat)), AV.w64 (BitVec.ofNat (64 : Nat) (0 : Nat)), AV.int IntKind.i64 (0 : Int), AV.int IntKind.i64 (0 : Int)]]), some (Blk.mk true (nat_lit 48) (4 : Nat) true [AV.agg [AV.w64 (BitVec.ofNat (64 : Nat) (0 : Nat)), AV.w64 (BitVec.ofNat (64 : Nat) (0 : Nat)), AV.int IntKind.i64 (0 : Int), AV.int IntKind.i64 (0 : Int)]]), some (Blk.mk true (nat_lit 48) (4 : Nat) true [AV.agg [AV.w64 (Ro.p (at' l p)).1, AV.w64 (Ro.p (at' l p)).2, AV.int IntKind.i64 (Ro.p (at' l p)).3, AV.int IntKind.i64 (at' l p).2]])] = lgSt (AV.func (Fn.func (45 : FuncId)) [] [AV.ptr (1 : Nat) (0 : Nat) (0 : Nat) true]) (Blk.mk true (27 : TypeId) (3 : Nat) true [AV.agg [AV.w64 a, AV.w64 b, AV.int IntKind.i64 k]]) (fun (x : Ro) => ovP x.1 (Pf.mk a b k)) l p' ∧ Nat.le p' (List.length l) ∧ List.length l + (1 : Nat) - p' < List.length l + (1 : Nat) - p) ∧ (ovP (Pf.mk (Ro.p (at' l p)).1 (Ro.p (at' l p)).2 (Ro.p (at' l p)).3) (Pf.mk a b k) = false → inRange IntKind.i64 ((↑p : Int) + (1 : Int)) ∧ ∃ (p' : Nat), St.mk [AV.any, AV.func (Fn.func (45 : FuncId)) [] [AV.ptr ((0 : Nat) + (1 : Nat)) (0 : Nat) (0 : Nat) true], AV.any, AV.any, AV.ptr ((0 : Nat) + (1 : Nat) + (1 : Nat) + (1 : Nat)) (0 : Nat) (0 : Nat) true, AV.any, AV.ptr ((0 : Nat) + (1 : Nat) + (1 : Nat) + (1 : Nat) + (1 : Nat)) (0 : Nat) (0 : Nat) true, AV.bool (Decidable.decide (kpX (fun (x : Ro) => ovP x.1 (Pf.mk a b k)) l p ≥ (0 : Int))), AV.any, AV.any, AV.any, AV.vsl (0 : Nat) (0 : Nat) (List.length (List.map roE l)), AV.int IntKind.i64 (↑(List.length (List.map roE l)) : Int), AV.int IntKind.i64 ((↑p : Int) + (1 : Int)), AV.any, AV.any, AV.any, AV.any, AV.any, AV.any, AV.any, AV.any, AV.any, AV.any, AV.any, AV.any, AV.any, AV.any, AV.any, AV.any, AV.any, AV.any, AV.any, AV.any, AV.any, AV.any, AV.any, AV.any, AV.any] [some (Blk.mk false (48 : TypeId) (4 : Nat) true (List.map roE l)), some (Blk.mk true (27 : TypeId) (3 : Nat) true [AV.agg [AV.w64 a, AV.w64 b, AV.int IntKind.i64 k]]), some (Blk.mk true (nat_lit 48) (4 : Nat) true [AV.agg [AV.w64 (BitVec.ofNat (64 : Nat) (0 : Nat)), AV.w64 (BitVec.ofNat (64 : Nat) (0 : Nat)), AV.int IntKind.i64 (0 : Int), AV.int IntKind.i64 (0 : Int)]]), some (Blk.mk true (nat_lit 48) (4 : Nat) true [AV.agg [AV.w64 (BitVec.ofNat (64 : Nat) (0 : Nat)), AV.w64 (BitVec.ofNat (64 : Nat) (0 : Nat)), AV.int IntKind.i64 (0 : Int), AV.int IntKind.i64 (0 : Int)]]), some (Blk.mk true (nat_lit 48) (4 : Nat) true [AV.agg [AV.w64 (Ro.p (kxR (fun (x : Ro) => ovP (Ro.p x) (Pf.mk a b k)) l p)).1, AV.w64 (Ro.p (kxR (fun (x : Ro) => ovP (Ro.p x) (Pf.mk a b k)) l p)).2, AV.int IntKind.i64 (Ro.p (kxR (fun (x : Ro) => ovP (Ro.p x) (Pf.mk a b k)) l p)).3, AV.int IntKind.i64 (kxR (fun (x : Ro) => ovP (Ro.p x) (Pf.mk a b k)) l p).2]])] = lgSt (AV.func (Fn.func (45 : FuncId)) [] [AV.ptr (1 : Nat) (0 : Nat) (0 : Nat) true]) (Blk.mk true (27 : TypeId) (3 : Nat) true [AV.agg [AV.w64 a, AV.w64 b, AV.int IntKind.i64 k]]) (fun (x : Ro) => ovP x.1 (Pf.mk a b k)) l p' ∧ Nat.le p' (List.length l) ∧ List.length l + (1 : Nat) - p' < List.length l + (1 : Nat) - p)) ∧ ((!Decidable.decide (kpX (fun (x : Ro) => ovP x.1 (Pf.mk a b k)) l p ≥ (0 : Int))) = false → (Decidable.decide ((Ro.p (at' l p)).3 > (Ro.p (kxR (fun (x : Ro) => ovP (Ro.p x) (Pf.mk a b k)) l p)).3) = true → (ovP (Pf.mk (Ro.p (at' l p)).1 (Ro.p (at' l p)).2 (Ro.p (at' l p)).3) (Pf.mk a b k) = true → inRange IntKind.i64 ((↑p : Int) + (1 : Int)) ∧ ∃ (p' : Nat), St.mk [AV.any, AV.func (Fn.func (45 : FuncId)) [] [AV.ptr ((0 : Nat) + (1 : Nat)) (0 : Nat) (0 : Nat) true], AV.any, AV.any, AV.ptr ((0 : Nat) + (1 : Nat) + (1 : Nat) + (1 : Nat)) (0 : Nat) (0 : Nat) true, AV.any, AV.ptr ((0 : Nat) + (1 : Nat) + (1 : Nat) + (1 : Nat) + (1 : Nat)) (0 : Nat) (0 : Nat) true, AV.bool true, AV.any, AV.any, AV.any, AV.vsl (0 : Nat) (0 : Nat) (List.length (List.map roE l)), AV.int IntKind.i64 (↑(List.length (List.map roE l)) : Int), AV.int IntKind.i64 ((↑p : Int) + (1 : Int)), AV.any, AV.any, AV.any, AV.any, AV.any, AV.any, AV.any, AV.any, AV.any, AV.any, AV.any, AV.any, AV.any, AV.any, AV.any, AV.any, AV.any, AV.any, AV.any, AV.any, AV.any, AV.any, AV.any, AV.any, AV.any] [some (Blk.mk false (48 : TypeId) (4 : Nat) true (List.map roE l)), some (Blk.mk true (27 : TypeId) (3 : Nat) true [AV.agg [AV.w64 a, AV.w64 b, AV.int IntKind.i64 k]]), some (Blk.mk true (nat_lit 48) (4 : Nat) true [AV.agg [AV.w64 (BitVec.ofNat (64 : Nat) (0 : Nat)), AV.w64 (BitVec.ofNat (64 : Nat) (0 : Nat)), AV.int IntKind.i64 (0 : Int), AV.int IntKind.i64 (0 : Int)]]), some (Blk.mk true (nat_lit 48) (4 : Nat) true [AV.agg [AV.w64 (BitVec.ofNat (64 : Nat) (0 : Nat)), AV.w64 (BitVec.ofNat (64 : Nat) (0 : Nat)), AV.int IntKind.i64 (0 : Int), AV.int IntKind.i64 (0 : Int)]]), some (Blk.mk true (nat_lit 48) (4 : Nat) true [AV.agg [AV.w64 (Ro.p (at' l p)).1, AV.w64 (Ro.p (at' l p)).2, AV.int IntKind.i64 (Ro.p (at' l p)).3, AV.int IntKind.i64 (at' l p).2]])] = lgSt (AV.func (Fn.func (45 : FuncId)) [] [AV.ptr (1 : Nat) (0 : Nat) (0 : Nat) true]) (Blk.mk true (27 : TypeId) (3 : Nat) true [AV.agg [AV.w64 a, AV.w64 b, AV.int IntKind.i64 k]]) (fun (x : Ro) => ovP x.1 (Pf.mk a b k)) l p' ∧ Nat.le p' (List.length l) ∧ List.length l + (1 : Nat) - p' < List.length l + (1 : Nat) - p) ∧ (ovP (Pf.mk (Ro.p (at' l p)).1 (Ro.p (at' l p)).2 (Ro.p (at' l p)).3) (Pf.mk a b k) = false → inRange IntKind.i64 ((↑p : Int) + (1 : Int)) ∧ ∃ (p' : Nat), St.mk [AV.any, AV.func (Fn.func (45 : FuncId)) [] [AV.ptr ((0 : Nat) + (1 : Nat)) (0 : Nat) (0 : Nat) true], AV.any, AV.any, AV.ptr ((0 : Nat) + (1 : Nat) + (1 : Nat) + (1 : Nat)) (0 : Nat) (0 : Nat) true, AV.any, AV.ptr ((0 : Nat) + (1 : Nat) + (1 : Nat) + (1 : Nat) + (1 : Nat)) (0 : Nat) (0 : Nat) true, AV.bool (Decidable.decide (kpX (fun (x : Ro) => ovP x.1 (Pf.mk a b k)) l p ≥ (0 : Int))), AV.any, AV.any, AV.any, AV.vsl (0 : Nat) (0 : Nat) (List.length (List.map roE l)), AV.int IntKind.i64 (↑(List.length (List.map roE l)) : Int), AV.int IntKind.i64 ((↑p : Int) + (1 : Int)), AV.any, AV.any, AV.any, AV.any, AV.any, AV.any, AV.any, AV.any, AV.any, AV.any, AV.any, AV.any, AV.any, AV.any, AV.any, AV.any, AV.any, AV.any, AV.any, AV.any, AV.any, AV.any, AV.any, AV.any, AV.any] [some (Blk.mk false (48 : TypeId) (4 : Nat) true (List.map roE l)), some (Blk.mk true (27 : TypeId) (3 : Nat) true [AV.agg [AV.w64 a, AV.w64 b, AV.int IntKind.i64 k]]), some (Blk.mk true (nat_lit 48) (4 : Nat) true [AV.agg [AV.w64 (BitVec.ofNat (64 : Nat) (0 : Nat)), AV.w64 (BitVec.ofNat (64 : Nat) (0 : Nat)), AV.int IntKind.i64 (0 : Int), AV.int IntKind.i64 (0 : Int)]]), some (Blk.mk true (nat_lit 48) (4 : Nat) true [AV.agg [AV.w64 (BitVec.ofNat (64 : Nat) (0 : Nat)), AV.w64 (BitVec.ofNat (64 : Nat) (0 : Nat)), AV.int IntKind.i64 (0 : Int), AV.int IntKind.i64 (0 : Int)]]), some (Blk.mk true (nat_lit 48) (4 : Nat) true [AV.agg [AV.w64 (Ro.p (kxR (fun (x : Ro) => ovP (Ro.p x) (Pf.mk a b k)) l p)).1, AV.w64 (Ro.p (kxR (fun (x : Ro) => ovP (Ro.p x) (Pf.mk a b k)) l p)).2, AV.int IntKind.i64 (Ro.p (kxR (fun (x : Ro) => ovP (Ro.p x) (Pf.mk a b k)) l p)).3, AV.int IntKind.i64 (kxR (fun (x : Ro) => ovP (Ro.p x) (Pf.mk a b k)) l p).2]])] = lgSt (AV.func (Fn.func (45 : FuncId)) [] [AV.ptr (1 : Nat) (0 : Nat) (0 : Nat) true]) (Blk.mk true (27 : TypeId) (3 : Nat) true [AV.agg [AV.w64 a, AV.w64 b, AV.int IntKind.i64 k]]) (fun (x : Ro) => ovP x.1 (Pf.mk a b k)) l p' ∧ Nat.le p' (List.length l) ∧ List.length l + (1 : Nat) - p' < List.length l + (1 : Nat) - p)) ∧ (Decidable.decide ((Ro.p (at' l p)).3 > (Ro.p (kxR (fun (x : Ro) => ovP (Ro.p x) (Pf.mk a b k)) l p)).3) = false → inRange IntKind.i64 ((↑p : Int) + (1 : Int)) ∧ ∃ (p' : Nat), St.mk [AV.any, AV.func (Fn.func (45 : FuncId)) [] [AV.ptr ((0 : Nat) + (1 : Nat)) (0 : Nat) (0 : Nat) true], AV.any, AV.any, AV.ptr ((0 : Nat) + (1 : Nat) + (1 : Nat) + (1 : Nat)) (0 : Nat) (0 : Nat) true, AV.any, AV.ptr ((0 : Nat) + (1 : Nat) + (1 : Nat) + (1 : Nat) + (1 : Nat)) (0 : Nat) (0 : Nat) true, AV.bool (Decidable.decide (kpX (fun (x : Ro) => ovP x.1 (Pf.mk a b k)) l p ≥ (0 : Int))), AV.any, AV.any, AV.any, AV.vsl (0 : Nat) (0 : Nat) (List.length (List.map roE l)), AV.int IntKind.i64 (↑(List.length (List.map roE l)) : Int), AV.int IntKind.i64 ((↑p : Int) + (1 : Int)), AV.any, AV.any, AV.any, AV.any, AV.any, AV.any, AV.any, AV.any, AV.any, AV.any, AV.any, AV.any, AV.any, AV.any, AV.any, AV.any, AV.any, AV.any, AV.any, AV.any, AV.any, AV.any, AV.any, AV.any, AV.any] [some (Blk.mk false (48 : TypeId) (4 : Nat) true (List.map roE l)), some (Blk.mk true (27 : TypeId) (3 : Nat) true [AV.agg [AV.w64 a, AV.w64 b, AV.int IntKind.i64 k]]), some (Blk.mk true (nat_lit 48) (4 : Nat) true [AV.agg [AV.w64 (BitVec.ofNat (64 : Nat) (0 : Nat)), AV.w64 (BitVec.ofNat (64 : Nat) (0 : Nat)), AV.int IntKind.i64 (0 : Int), AV.int IntKind.i64 (0 : Int)]]), some (Blk.mk true (nat_lit 48) (4 : Nat) true [AV.agg [AV.w64 (BitVec.ofNat (64 : Nat) (0 : Nat)), AV.w64 (BitVec.ofNat (64 : Nat) (0 : Nat)), AV.int IntKind.i64 (0 : Int), AV.int IntKind.i64 (0 : Int)]]), some (Blk.mk true (nat_lit 48) (4 : Nat) true [AV.agg [AV.w64 (Ro.p (kxR (fun (x : Ro) => ovP (Ro.p x) (Pf.mk a b k)) l p)).1, AV.w64 (Ro.p (kxR (fun (x : Ro) => ovP (Ro.p x) (Pf.mk a b k)) l p)).2, AV.int IntKind.i64 (Ro.p (kxR (fun (x : Ro) => ovP (Ro.p x) (Pf.mk a b k)) l p)).3, AV.int IntKind.i64 (kxR (fun (x : Ro) => ovP (Ro.p x) (Pf.mk a b k)) l p).2]])] = lgSt (AV.func (Fn.func (45 : FuncId)) [] [AV.ptr (1 : Nat) (0 : Nat) (0 : Nat) true]) (Blk.mk true (27 : TypeId) (3 : Nat) true [AV.agg [AV.w64 a, AV.w64 b, AV.int IntKind.i64 k]]) (fun (x : Ro) => ovP x.1 (Pf.mk a b k)) l p' ∧ Nat.le p' (List.length l) ∧ List.length l + (1 : Nat) - p' < List.length l + (1 : Nat) - p))) ∧ (Decidable.decide ((↑p : Int) < (↑(List.length (List.map roE l)) : Int)) = false → AV.tuple [AV.agg [AV.w64 (Ro.p (kxR (fun (x : Ro) => ovP (Ro.p x) (Pf.mk a b k)) l p)).1, AV.w64 (Ro.p (kxR (fun (x : Ro) => ovP (Ro.p x) (Pf.mk a b k)) l p)).2, AV.int IntKind.i64 (Ro.p (kxR (fun (x : Ro) => ovP (Ro.p x) (Pf.mk a b k)) l p)).3, AV.int IntKind.i64 (kxR (fun (x : Ro) => ovP (Ro.p x) (Pf.mk a b k)) l p).2], AV.bool (Decidable.decide (kpX (fun (x : Ro) => ovP x.1 (Pf.mk a b k)) l p ≥ (0 : Int)))] = r)) := by kernel_rfl

theorem gcover6Cs_ok : ∀ e ∈ gcover6Cs, SpecOK Try.prog e.1 e.2 := by
  intro e he
  simp only [gcover6Cs, List.mem_cons, List.not_mem_nil, or_false] at he
  rcases he with rfl
  · exact pins6_ok

theorem gcover6_ok : SpecOK Try.prog 25 (genSpec [pRo, none] gcoverF) := by
  refine genSpec_ok (run_ok (l := gcover6Cs) gcover6Cs_ok mixed noNG) fun l R hF => ?_
  unfold gcoverF at hF
  split at hF
  · rename_i r_l a b k
    obtain ⟨hr_l, hl, hF⟩ := hF
    generalize deR r_l = l at hr_l hl hF
    subst hr_l
    obtain ⟨hr, hF⟩ := hF
    refine ⟨_, hF, rfl, (lgH cvFn (cvBox a b k) (fun x => ovP x.p ⟨a, b, k⟩) l), ?_⟩
    show run gcover6Cs Try.prog _ [.vsl 0 0 (l.map roE).length, .agg [.w64 a, .w64 b, .int .i64 k]] [some ⟨false, (pRo.getD (0, 0)).1, (pRo.getD (0, 0)).2, true, (l.map roE)⟩] _ _
    rw [gcover6_run]
    have T := tbR_iff.1 hl
    have hm := T.most
    refine ⟨⟨rfl, Nat.zero_le _⟩, ?_⟩
    intro p hp0
    have hp0 : p ≤ l.length := hp0
    refine ⟨fun hlt => ?_, fun hge => ?_⟩
    · have hp : p < l.length := by simp only [decide_eq_true_eq, List.length_map] at hlt; omega
      have B : 0 ≤ (p : Int) ∧ (p : Int) < ((l.map roE).length : Int) := by rw [List.length_map]; omega
      have i1 : inRange .i64 ((p : Int) + 1) := inR (by omega) (by omega)
      refine ⟨B, read_rows B.1 B.2 (ro_whole _), fun hn => ⟨fun hk => ?_, fun hk => ?_⟩, fun hn => ⟨fun hg => ⟨fun hk => ?_, fun hk => ?_⟩, fun hg => ?_⟩⟩
      · have hn : ¬ kpX (fun x => ovP x.p ⟨a, b, k⟩) l p ≥ 0 := by simpa using hn
        have e := kp_yes (ok := (fun x => ovP x.p ⟨a, b, k⟩)) (.inl (by omega)) hk
        exact ⟨i1, p + 1, by unfold lgSt; rw [e.1, e.2]; rfl, hp, by omega⟩
      · have e := kp_no (ok := (fun x => ovP x.p ⟨a, b, k⟩)) (.inl hk)
        exact ⟨i1, p + 1, by unfold lgSt; rw [e.1, e.2]; rfl, hp, by omega⟩
      · have e := kp_yes (ok := (fun x => ovP x.p ⟨a, b, k⟩)) (.inr (of_decide_eq_true hg)) hk
        exact ⟨i1, p + 1, by unfold lgSt; rw [e.1, e.2]; rfl, hp, by omega⟩
      · have e := kp_no (ok := (fun x => ovP x.p ⟨a, b, k⟩)) (.inl hk)
        exact ⟨i1, p + 1, by unfold lgSt; rw [e.1, e.2]; rfl, hp, by omega⟩
      · have hn : kpX (fun x => ovP x.p ⟨a, b, k⟩) l p ≥ 0 := by simpa using hn
        have e := kp_no (ok := (fun x => ovP x.p ⟨a, b, k⟩)) (.inr ⟨hn, of_decide_eq_false hg⟩)
        exact ⟨i1, p + 1, by unfold lgSt; rw [e.1, e.2]; rfl, hp, by omega⟩
    · have hp : p = l.length := by simp only [decide_eq_false_iff_not, List.length_map] at hge; omega
      subst hp
      have e := kp_end (ok := (fun x => ovP x.p ⟨a, b, k⟩)) (cvrR_scan T hr (fbX_spec _ _ _ _))
      rw [e.1, e.2]
  · exact hF.elim


end Go.Proofs.Ytfcjghgfanaipaa.L1
end

section
/-
  Layer 6: the contract of the program's Chain: the stack of those that are open.
-/
namespace Go.Proofs.Ytfcjghgfanaipaa.L1
open Go.Sx Go.Sx.M

theorem pf_whole (x : Pf) : partOf Try.prog 27 (pfE x).cells 0 = some (pfE x) := by kernel_rfl

/-- The most that were open in the first n steps. -/
def mxG (l : List Ro) : Nat → Int
  | 0 => 0
  | n + 1 => if ((skR l (n + 1)).length : Int) > mxG l n then ((skR l (n + 1)).length : Int) else mxG l n

theorem mxG_spec (l : List Ro) : ∀ n, 0 ≤ mxG l n ∧ (∀ i, i < n → ((opR l i).length : Int) ≤ mxG l n) ∧ (mxG l n = 0 ∨ ∃ i, i < n ∧ mxG l n = ((opR l i).length : Int))
  | 0 => ⟨Int.le_refl _, fun i hi => by omega, .inl rfl⟩
  | n + 1 => by
    obtain ⟨h0, h1, h2⟩ := mxG_spec l n
    have e : (skR l (n + 1)).length = (opR l n).length := by unfold skR; rw [if_neg (by omega), List.length_map, Nat.add_sub_cancel]
    unfold mxG
    rw [e]
    split
    · refine ⟨by omega, fun i hi => ?_, .inr ⟨n, by omega, rfl⟩⟩
      rcases Nat.lt_or_eq_of_le (Nat.le_of_lt_succ hi) with h | rfl
      · have := h1 i h; omega
      · omega
    · refine ⟨h0, fun i hi => ?_, ?_⟩
      · rcases Nat.lt_or_eq_of_le (Nat.le_of_lt_succ hi) with h | rfl
        · exact h1 i h
        · omega
      · rcases h2 with h2 | ⟨i, hi, h2⟩
        · exact .inl h2
        · exact .inr ⟨i, by omega, h2⟩

theorem mxG_le {w : Int} {l : List Ro} (h : TB w l) {n : Nat} (hn : n ≤ l.length) : 0 ≤ mxG l n ∧ mxG l n ≤ 256 := by
  obtain ⟨h0, _, h2⟩ := mxG_spec l n
  refine ⟨h0, ?_⟩
  rcases h2 with h2 | ⟨i, hi, h2⟩
  · omega
  · have := opR_le h (show i < l.length by omega)
    have := h.most
    omega

def gcSt (F : List Pf → List AV) (l : List Ro) (p : Nat) : St :=
  ⟨[.any, .any, .any, .vsl 1 0 (skR l p).length, .int .i64 (mxG l p), .any, .any, .vsl 0 0 (l.map roE).length, .int .i64 (l.map roE).length, .int .i64 p, .any, .any, .any, .any, .any, .any, .any, .any, .any, .any, .any, .any, .any, .any, .any, .any, .any, .any, .any, .any, .any, .any, .any, .any, .any, .any, .any, .any, .any, .any, .any, .any, .any, .any], [some ⟨false, 48, 4, true, l.map roE⟩, some ⟨true, 27, 3, true, F (skR l p)⟩]⟩
def gcSt2 (F : List Pf → List AV) (l : List Ro) (p k : Nat) : St :=
  ⟨[.any, .any, .any, .vsl 1 0 k, .int .i64 (mxG l p), .any, .ptr 2 0 0 true, .vsl 0 0 (l.map roE).length, .int .i64 (l.map roE).length, .int .i64 p, .any, .any, .any, .any, .any, .any, .any, .any, .any, .any, .any, .any, .any, .any, .any, .any, .any, .any, .any, .any, .any, .any, .any, .any, .any, .any, .any, .any, .any, .any, .any, .any, .any, .any], [some ⟨false, 48, 4, true, l.map roE⟩, some ⟨true, 27, 3, true, F (skR l p)⟩, some ⟨true, 48, 4, true, [roE (at' l p)]⟩]⟩
def gcM0 : Modes := ⟨[0, 0, 0, 1, 2, 0, 0, 1, 1, 2, 0, 0, 0, 0, 0, 0, 0, 0, 0, 0, 0, 0, 0, 0, 0, 0, 0, 0, 0, 0, 0, 0, 0, 0, 0, 0, 0, 0, 0, 0, 0, 0, 0, 0], [], [], [], [(3, 27, 3)]⟩
def gcM : Modes := ⟨[0, 0, 0, 1, 1, 0, 0, 1, 1, 1, 0, 0, 0, 0, 0, 0, 0, 0, 0, 0, 0, 0, 0, 0, 0, 0, 0, 0, 0, 0, 0, 0, 0, 0, 0, 0, 0, 0, 0, 0, 0, 0, 0, 0], [], [], [], []⟩
def gcM' : Modes := ⟨[0, 0, 0, 0, 1, 0, 0, 0, 0, 0, 0, 0, 0, 0, 0, 0, 0, 0, 0, 0, 0, 0, 0, 0, 0, 0, 0, 0, 0, 0, 0, 0, 0, 0, 0, 0, 0, 0, 0, 0, 0, 0, 0, 0], [], [], [], []⟩
def gcN : Modes := ⟨[0, 0, 0, 1, 1, 0, 1, 1, 1, 1, 0, 0, 0, 0, 0, 0, 0, 0, 0, 0, 0, 0, 0, 0, 0, 0, 0, 0, 0, 0, 0, 0, 0, 0, 0, 0, 0, 0, 0, 0, 0, 0, 0, 0], [], [], [], []⟩
def gcI2 (l : List Ro) (p k : Nat) : Prop := k ≤ (skR l p).length ∧ ∀ t, k ≤ t → t < (skR l p).length → cvP (at' (skR l p) t) (at' l p).p = false
def gcH (F : List Pf → List AV) (l : List Ro) : List Hint := [.linv _ 0 (gcSt F l) (fun p => p ≤ l.length) (fun p => l.length + 1 - p) gcM0 gcM gcM' (fun _ => []) fun p =>
  [.fork [.dy, .cell (roE (at' l p)), .linv _ (skR l p).length (gcSt2 F l p) (gcI2 l p) (fun k => k) gcN gcN gcN (fun _ => [.rows (F (skR l (p + 1))), .nw]) fun k =>
    [.fork [.nw, .ix (k - 1), .cell (pfE (at' (skR l p) (k - 1))), .fork [.nw, .ix (k - 1)] []] []]] []]]

noncomputable def gchain6Cs : List (FuncId × Sx.Spec) := [(36, genSpec [none, none] coversF)]

theorem gchain6_run (l : List Ro) (F : List Pf → List AV) (r : AV) : run gchain6Cs Try.prog 28 [.vsl 0 0 (l.map roE).length] [some ⟨false, (pRo.getD (0, 0)).1, (pRo.getD (0, 0)).2, true, (l.map roE)⟩] (gcH F l) (yields (.v r)) =
    ((St.mk [AV.any, AV.any, AV.any, AV.vsl (List.length [some (Blk.mk false (nat_lit 48) (4 : Nat) true (List.map roE l))]) (0 : Nat) (0 : Nat), AV.int IntKind.i64 (0 : Int), AV.any, AV.any, AV.vsl (0 : Nat) (0 : Nat) (List.length (List.map roE l)), AV.int IntKind.i64 (↑(List.length (List.map roE l)) : Int), AV.int IntKind.i64 (0 : Int), AV.any, AV.any, AV.any, AV.any, AV.any, AV.any, AV.any, AV.any, AV.any, AV.any, AV.any, AV.any, AV.any, AV.any, AV.any, AV.any, AV.any, AV.any, AV.any, AV.any, AV.any, AV.any, AV.any, AV.any, AV.any, AV.any, AV.any, AV.any, AV.any, AV.any, AV.any, AV.any, AV.any, AV.any] ([some (Blk.mk false (nat_lit 48) (4 : Nat) true (List.map roE l))] ++ [some (Blk.mk true (27 : TypeId) (3 : Nat) true [])]) = gcSt F l (0 : Nat) ∧ Nat.le (0 : Nat) (List.length l)) ∧ ∀ (p : Nat), Nat.le p (List.length l) → (Decidable.decide ((↑p : Int) < (↑(List.length (List.map roE l)) : Int)) = true → ((0 : Int) ≤ (↑p : Int) ∧ (↑p : Int) < (↑(List.length (List.map roE l)) : Int)) ∧ Blk.read Proofs.Try.prog (Blk.mk false (48 : TypeId) (4 : Nat) true (List.map roE l)) (48 : Nat) ((0 : Nat) + Int.toNat (↑p : Int)) (0 : Nat) = some (AV.agg [AV.w64 (Ro.p (at' l p)).1, AV.w64 (Ro.p (at' l p)).2, AV.int IntKind.i64 (Ro.p (at' l p)).3, AV.int IntKind.i64 (at' l p).2]) ∧ (St.mk [AV.any, AV.any, AV.any, AV.vsl ((0 : Nat) + (1 : Nat)) (0 : Nat) (List.length (skR l p)), AV.int IntKind.i64 (mxG l p), AV.any, AV.ptr ((0 : Nat) + (1 : Nat) + (1 : Nat)) (0 : Nat) (0 : Nat) true, AV.vsl (0 : Nat) (0 : Nat) (List.length (List.map roE l)), AV.int IntKind.i64 (↑(List.length (List.map roE l)) : Int), AV.int IntKind.i64 (↑p : Int), AV.any, AV.any, AV.any, AV.any, AV.any, AV.any, AV.any, AV.any, AV.any, AV.any, AV.any, AV.any, AV.any, AV.any, AV.any, AV.any, AV.any, AV.any, AV.any, AV.any, AV.any, AV.any, AV.any, AV.any, AV.any, AV.any, AV.any, AV.any, AV.any, AV.any, AV.any, AV.any, AV.any, AV.any] [some (Blk.mk false (48 : TypeId) (4 : Nat) true (List.map roE l)), some (Blk.mk true (27 : TypeId) (3 : Nat) true (F (skR l p))), some (Blk.mk true (nat_lit 48) (4 : Nat) true [AV.agg [AV.w64 (Ro.p (at' l p)).1, AV.w64 (Ro.p (at' l p)).2, AV.int IntKind.i64 (Ro.p (at' l p)).3, AV.int IntKind.i64 (at' l p).2]])] = gcSt2 F l p (List.length (skR l p)) ∧ gcI2 l p (List.length (skR l p))) ∧ ∀ (p_1 : Nat), gcI2 l p p_1 → (Decidable.decide ((↑p_1 : Int) > (0 : Int)) = true → inRange IntKind.i64 ((↑p_1 : Int) - (1 : Int)) ∧ (↑p_1 : Int) - (1 : Int) = (↑(p_1 - (1 : Nat)) : Int) ∧ p_1 - (1 : Nat) < p_1 ∧ Blk.read Proofs.Try.prog (Blk.mk true (27 : TypeId) (3 : Nat) true (F (skR l p))) (27 : Nat) ((0 : Nat) + (p_1 - (1 : Nat))) (0 : Nat) = some (AV.agg [AV.w64 (at' (skR l p) (p_1 - (1 : Nat))).1, AV.w64 (at' (skR l p) (p_1 - (1 : Nat))).2, AV.int IntKind.i64 (at' (skR l p) (p_1 - (1 : Nat))).3]) ∧ ((!(Decidable.decide ((at' (skR l p) (p_1 - (1 : Nat))).3 ≤ (Ro.p (at' l p)).3) && matchB (at' (skR l p) (p_1 - (1 : Nat))).1 (at' (skR l p) (p_1 - (1 : Nat))).2 (at' (skR l p) (p_1 - (1 : Nat))).3 (Ro.p (at' l p)).1 (Ro.p (at' l p)).2)) = true → inRange IntKind.i64 ((↑p_1 : Int) - (1 : Int)) ∧ (↑p_1 : Int) - (1 : Int) = (↑(p_1 - (1 : Nat)) : Int) ∧ p_1 - (1 : Nat) < p_1 + (1 : Nat) ∧ ∃ (p' : Nat), St.mk [AV.any, AV.any, AV.any, AV.vsl ((0 : Nat) + (1 : Nat)) ((0 : Nat) + (0 : Nat)) (p_1 - (1 : Nat) - (0 : Nat)), AV.int IntKind.i64 (mxG l p), AV.any, AV.ptr ((0 : Nat) + (1 : Nat) + (1 : Nat)) (0 : Nat) (0 : Nat) true, AV.vsl (0 : Nat) (0 : Nat) (List.length (List.map roE l)), AV.int IntKind.i64 (↑(List.length (List.map roE l)) : Int), AV.int IntKind.i64 (↑p : Int), AV.any, AV.any, AV.any, AV.any, AV.any, AV.any, AV.any, AV.any, AV.any, AV.any, AV.any, AV.any, AV.any, AV.any, AV.any, AV.any, AV.any, AV.any, AV.any, AV.any, AV.any, AV.any, AV.any, AV.any, AV.any, AV.any, AV.any, AV.any, AV.any, AV.any, AV.any, AV.any, AV.any, AV.any] [some (Blk.mk false (48 : TypeId) (4 : Nat) true (List.map roE l)), some (Blk.mk true (27 : TypeId) (3 : Nat) true (F (skR l p))), some (Blk.mk true (48 : TypeId) (4 : Nat) true [AV.agg [AV.w64 (Ro.p (at' l p)).1, AV.w64 (Ro.p (at' l p)).2, AV.int IntKind.i64 (Ro.p (at' l p)).3, AV.int IntKind.i64 (at' l p).2]])] = gcSt2 F l p p' ∧ gcI2 l p p' ∧ p' < p_1) ∧ ((!(Decidable.decide ((at' (skR l p) (p_1 - (1 : Nat))).3 ≤ (Ro.p (at' l p)).3) && matchB (at' (skR l p) (p_1 - (1 : Nat))).1 (at' (skR l p) (p_1 - (1 : Nat))).2 (at' (skR l p) (p_1 - (1 : Nat))).3 (Ro.p (at' l p)).1 (Ro.p (at' l p)).2)) = false → ((p_1 + (1 : Nat)) * (24 : Nat) ≤ (140737488355328 : Nat) ∧ p_1 + (1 : Nat) ≤ (9223372036854775807 : Nat) ∧ (0 : Nat) + (1 : Nat) ≤ List.length [AV.agg [AV.w64 (Ro.p (at' l p)).1, AV.w64 (Ro.p (at' l p)).2, AV.int IntKind.i64 (Ro.p (at' l p)).3]] ∧ p_1 ≤ List.length (F (skR l p))) ∧ List.take p_1 (F (skR l p)) ++ [AV.agg [AV.w64 (Ro.p (at' l p)).1, AV.w64 (Ro.p (at' l p)).2, AV.int IntKind.i64 (Ro.p (at' l p)).3]] = F (skR l (p + (1 : Nat))) ∧ inRange IntKind.i64 ((↑p : Int) + (1 : Int)) ∧ ∃ (p' : Nat), St.mk [AV.any, AV.any, AV.any, AV.vsl ((0 : Nat) + (1 : Nat)) (0 : Nat) (p_1 + (1 : Nat)), AV.int IntKind.i64 (if (↑(p_1 + (1 : Nat)) : Int) > mxG l p then (↑(p_1 + (1 : Nat)) : Int) else mxG l p), AV.any, AV.any, AV.vsl (0 : Nat) (0 : Nat) (List.length (List.map roE l)), AV.int IntKind.i64 (↑(List.length (List.map roE l)) : Int), AV.int IntKind.i64 ((↑p : Int) + (1 : Int)), AV.any, AV.any, AV.any, AV.any, AV.any, AV.any, AV.any, AV.any, AV.any, AV.any, AV.any, AV.any, AV.any, AV.any, AV.any, AV.any, AV.any, AV.any, AV.any, AV.any, AV.any, AV.any, AV.any, AV.any, AV.any, AV.any, AV.any, AV.any, AV.any, AV.any, AV.any, AV.any, AV.any, AV.any] [some (Blk.mk false (48 : TypeId) (4 : Nat) true (List.map roE l)), some (Blk.mk true (27 : Nat) (3 : Nat) true (F (skR l (p + (1 : Nat)))))] = gcSt F l p' ∧ Nat.le p' (List.length l) ∧ List.length l + (1 : Nat) - p' < List.length l + (1 : Nat) - p)) ∧ (Decidable.decide ((↑p_1 : Int) > (0 : Int)) = false → ((p_1 + (1 : Nat)) * (24 : Nat) ≤ (140737488355328 : Nat) ∧ p_1 + (1 : Nat) ≤ (9223372036854775807 : Nat) ∧ (0 : Nat) + (1 : Nat) ≤ List.length [AV.agg [AV.w64 (Ro.p (at' l p)).1, AV.w64 (Ro.p (at' l p)).2, AV.int IntKind.i64 (Ro.p (at' l p)).3]] ∧ p_1 ≤ List.length (F (skR l p))) ∧ List.take p_1 (F (skR l p)) ++ [AV.agg [AV.w64 (Ro.p (at' l p)).1, AV.w64 (Ro.p (at' l p)).2, AV.int IntKind.i64 (Ro.p (at' l p)).3]] = F (skR l (p + (1 : Nat))) ∧ inRange IntKind.i64 ((↑p : Int) + (1 : Int)) ∧ ∃ (p' : Nat), St.mk [AV.any, AV.any, AV.any, AV.vsl ((0 : Nat) + (1 : Nat)) (0 : Nat) (p_1 + (1 : Nat)), AV.int IntKind.i64 (if (↑(p_1 + (1 : Nat)) : Int) > mxG l p then (↑(p_1 + (1 : Nat)) : Int) else mxG l p), AV.any, AV.any, AV.vsl (0 : Nat) (0 : Nat) (List.length (List.map roE l)), AV.int IntKind.i64 (↑(List.length (List.map roE l)) : Int), AV.int IntKind.i64 ((↑p : Int) + (1 : Int)), AV.any, AV.any, AV.any, AV.any, AV.any, AV.any, AV.any, AV.any, AV.any, AV.any, AV.any, AV.any, AV.any, AV.any, AV.any, AV.any, AV.any, AV.any, AV.any, AV.any, AV.any, AV.any, AV.any, AV.any, AV.any, AV.any, AV.any, AV.any, AV.any, AV.any, AV.any, AV.any, AV.any, AV.any] [some (Blk.mk false (48 : TypeId) (4 : Nat) true (List.map roE l)), some (Blk.mk true (27 : Nat) (3 : Nat) true (F (skR l (p + (1 : Nat)))))] = gcSt F l p' ∧ Nat.le p' (List.length l) ∧ List.length l + (1 : Nat) - p' < List.length l + (1 : Nat) - p)) ∧ (Decidable.decide ((↑p : Int) < (↑(List.length (List.map roE l)) : Int)) = false → AV.int IntKind.i64 (mxG l p) = r)) := by kernel_rfl

theorem gchain6Cs_ok : ∀ e ∈ gchain6Cs, SpecOK Try.prog e.1 e.2 := by
  intro e he
  simp only [gchain6Cs, List.mem_cons, List.not_mem_nil, or_false] at he
  rcases he with rfl
  · exact pcovers_ok

theorem gchain6_ok : SpecOK Try.prog 28 (genSpec [pRo] gchainF) := by
  refine genSpec_ok (run_ok (l := gchain6Cs) gchain6Cs_ok mixed noNG) fun l R hF => ?_
  unfold gchainF at hF
  split at hF
  · rename_i r_l
    obtain ⟨hr_l, hl, hF⟩ := hF
    generalize deR r_l = l at hr_l hl hF
    subst hr_l
    refine ⟨_, hF, rfl, (gcH (List.map pfE) l), ?_⟩
    show run gchain6Cs Try.prog _ [.vsl 0 0 (l.map roE).length] [some ⟨false, (pRo.getD (0, 0)).1, (pRo.getD (0, 0)).2, true, (l.map roE)⟩] _ _
    rw [gchain6_run]
    have T := tbR_iff.1 hl
    have hm := T.most
    refine ⟨⟨rfl, Nat.zero_le _⟩, ?_⟩
    intro p hp0
    have hp0 : p ≤ l.length := hp0
    refine ⟨fun hlt => ?_, fun hge => ?_⟩
    · have hp : p < l.length := by simp only [decide_eq_true_eq, List.length_map] at hlt; omega
      have B : 0 ≤ (p : Int) ∧ (p : Int) < ((l.map roE).length : Int) := by rw [List.length_map]; omega
      have hs := skR_le T hp0
      have hsm : ((skR l p).map pfE).length = (skR l p).length := List.length_map _
      have hx := mxG_le T hp0
      refine ⟨B, read_rows B.1 B.2 (ro_whole _), ⟨rfl, Nat.le_refl _, fun t h1 h2 => by omega⟩, ?_⟩
      rintro k ⟨k1, k2⟩
      -- with those that stay open, and the route's own
      have out : (0 < k → cvP (at' (skR l p) (k - 1)) (at' l p).p = true) → ((k + 1) * 24 ≤ 140737488355328 ∧ k + 1 ≤ 9223372036854775807 ∧ 0 + 1 ≤ List.length [pfE (at' l p).p] ∧ k ≤ ((skR l p).map pfE).length) ∧ List.take k ((skR l p).map pfE) ++ [pfE (at' l p).p] = (skR l (p + 1)).map pfE ∧ inRange .i64 ((p : Int) + 1) ∧
          ∃ p', (⟨[.any, .any, .any, .vsl 1 0 (k + 1), .int .i64 (if (((k + 1 : Nat) : Int)) > mxG l p then (((k + 1 : Nat) : Int)) else mxG l p), .any, .any, .vsl 0 0 (l.map roE).length, .int .i64 (l.map roE).length, .int .i64 ((p : Int) + 1), .any, .any, .any, .any, .any, .any, .any, .any, .any, .any, .any, .any, .any, .any, .any, .any, .any, .any, .any, .any, .any, .any, .any, .any, .any, .any, .any, .any, .any, .any, .any, .any, .any, .any], [some ⟨false, 48, 4, true, l.map roE⟩, some ⟨true, 27, 3, true, (skR l (p + 1)).map pfE⟩]⟩ : St) = gcSt (List.map pfE) l p' ∧ Nat.le p' l.length ∧ l.length + 1 - p' < l.length + 1 - p := fun h => by
        have e := skR_step T hp k1 k2 h
        have el : (skR l (p + 1)).length = k + 1 := by rw [← e, List.length_append, List.length_take, List.length_cons, List.length_nil]; omega
        refine ⟨⟨by omega, by omega, Nat.le_refl _, by omega⟩, ?_, inR (by omega) (by omega), p + 1, ?_, hp, by omega⟩
        · rw [← e, List.map_append, List.map_take]; rfl
        · unfold gcSt
          have em : mxG l (p + 1) = if (((k + 1 : Nat) : Int)) > mxG l p then (((k + 1 : Nat) : Int)) else mxG l p := by
            show (if ((skR l (p + 1)).length : Int) > mxG l p then ((skR l (p + 1)).length : Int) else mxG l p) = _
            rw [el]
          rw [em, el]; rfl
      refine ⟨fun h0 => ?_, fun h0 => out fun h => ?_⟩
      · have h0 : 0 < k := by have := of_decide_eq_true h0; omega
        have e1 : (k : Int) - 1 = ((k - 1 : Nat) : Int) := by omega
        refine ⟨inR (by omega) (by omega), e1, by omega, read_rows (k := ((k - 1 : Nat) : Int)) (by omega) (by omega) (pf_whole _), fun hc => ?_, fun hc => out fun _ => ?_⟩
        · have hc : (!cvP (at' (skR l p) (k - 1)) (at' l p).p) = true := hc
          have hc : cvP (at' (skR l p) (k - 1)) (at' l p).p = false := by simpa using hc
          refine ⟨inR (by omega) (by omega), e1, by omega, k - 1, rfl, ⟨by omega, fun t h1 h2 => ?_⟩, by omega⟩
          by_cases e : t = k - 1
          · rw [e]; exact hc
          · exact k2 t (by omega) h2
        · have hc : (!cvP (at' (skR l p) (k - 1)) (at' l p).p) = false := hc
          simpa using hc
      · have h0 := of_decide_eq_false h0
        omega
    · have hp : p = l.length := by simp only [decide_eq_false_iff_not, List.length_map] at hge; omega
      subst hp
      obtain ⟨a1, a2, a3⟩ := mxG_spec l l.length
      rw [chR_open T a1 a2 a3]
  · exact hF.elim


end Go.Proofs.Ytfcjghgfanaipaa.L1
end

