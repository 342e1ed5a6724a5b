/-
  Layer 6: how many routes of a table cover one another, by how many cover each: plain mathematics.
-/
import Derived.Test.YtffcpblbdfjagaaL6N
namespace Go.Sx.M
open Go.Proofs.Ytffcpblbdfjagaa.L1

/-- A table's order, by places. -/
theorem TB.at {w : Int} {l : List Ro} (h : TB w l) {i j : Nat} (hij : i < j) (hj : j < l.length) : cpP (at' l i).p (at' l j).p < 0 := by
  have hi : i < l.length := by omega
  have := List.pairwise_iff_getElem.1 h.sorted i j hi hj hij
  have e1 : l[i] = at' l i := by have := at_get hi; rw [List.getElem?_eq_getElem hi] at this; exact Option.some_inj.1 this
  have e2 : l[j] = at' l j := by have := at_get hj; rw [List.getElem?_eq_getElem hj] at this; exact Option.some_inj.1 this
  rw [e1, e2] at this
  exact this

/-- One covers another, and is not it. -/
def ovP (p q : Pf) : Bool := !decide (q = p) && cvP p q

theorem ovP_iff {p q : Pf} : ovP p q = true ↔ q ≠ p ∧ cvP p q = true := by unfold ovP; simp

/-- What covers another one that may be stands ahead of it. -/
theorem ovP_lt {w w' : Int} {p q : Pf} (hp : riP w p = true) (hq : riP w' q = true) (h : ovP p q = true) : cpP p q < 0 := by
  obtain ⟨hn, hc⟩ := ovP_iff.1 h
  obtain ⟨_, p1, p2, p3⟩ := riP_iff.1 hp
  obtain ⟨_, q1, q2, q3⟩ := riP_iff.1 hq
  obtain ⟨c1, c2⟩ := cvP_iff.1 hc
  have hle : V p.a p.b ≤ V q.a q.b := V_sub fun i hi hb => by
    by_cases h' : (i : Int) < p.len
    · rw [← c2 i hi h']; exact hb
    · rw [p3 i hi (by omega)] at hb; cases hb
  rw [cpP_lt]
  rcases Nat.lt_or_eq_of_le hle with h' | h'
  · exact .inl h'
  · refine .inr ⟨h', ?_⟩
    rcases Int.lt_or_eq_of_le c1 with h2 | h2
    · exact h2
    · exact absurd (riP_eq hq hp h2.symm (c := q.a) (d := q.b) (mtP_iff.2 fun i _ _ => rfl) (mtP_iff.2 c2)) hn

/-- Of two that cover a third one, the one ahead covers the other. -/
theorem ovP_two {w : Int} {y z x : Pf} (hy : riP w y = true) (hz : riP w z = true) (h1 : ovP y x = true) (h2 : ovP z x = true) (h : cpP y z < 0) : ovP y z = true := by
  obtain ⟨a1, a2⟩ := cvP_iff.1 (ovP_iff.1 h1).2
  obtain ⟨b1, b2⟩ := cvP_iff.1 (ovP_iff.1 h2).2
  have hne : z ≠ y := fun e => by rw [e, cpP_self] at h; omega
  by_cases hl : y.len ≤ z.len
  · exact ovP_iff.2 ⟨hne, cvP_iff.2 ⟨hl, fun i hi hi2 => by rw [a2 i hi hi2, b2 i hi (by omega)]⟩⟩
  · have := ovP_lt hz hy (ovP_iff.2 ⟨fun e => hne e.symm, cvP_iff.2 ⟨by omega, fun i hi hi2 => by rw [b2 i hi hi2, a2 i hi (by omega)]⟩⟩)
    have := cpP_trans h this
    rw [cpP_self] at this
    omega

/-- What covers a prefix. -/
def cvL (l : List Ro) (q : Pf) : List Ro := l.filter fun y => ovP y.p q

theorem mem_cvL {l : List Ro} {q : Pf} {x : Ro} : x ∈ cvL l q ↔ x ∈ l ∧ ovP x.p q = true := by
  unfold cvL; rw [List.mem_filter]

theorem cvL_chain {w : Int} {l : List Ro} (h : TB w l) (q : Pf) : IsCh (cvL l q) := by
  have hs : (cvL l q).Pairwise fun x y => cpP x.p y.p < 0 := h.sorted.filter _
  refine hs.imp_of_mem fun {a b} ha hb hab => ?_
  obtain ⟨a1, a2⟩ := mem_cvL.1 ha
  obtain ⟨b1, b2⟩ := mem_cvL.1 hb
  exact ovP_iff.1 (ovP_two (h.rip a1) (h.rip b1) a2 b2 hab)

theorem count_le_chR {w : Int} {l : List Ro} (h : TB w l) {x : Ro} (hx : x ∈ l) : ((cvL l x.p).length : Int) + 1 ≤ chR l := by
  have hc : IsCh (cvL l x.p ++ [x]) := by
    unfold IsCh
    rw [List.pairwise_append]
    refine ⟨cvL_chain h _, List.pairwise_singleton _ _, fun a ha b hb => ?_⟩
    obtain rfl := List.mem_singleton.1 hb
    exact ovP_iff.1 (mem_cvL.1 ha).2
  have := chR_upper (l := l) hc fun y hy => by
    rcases List.mem_append.1 hy with hy | hy
    · exact (mem_cvL.1 hy).1
    · rw [List.mem_singleton.1 hy]; exact hx
  rw [List.length_append] at this
  simpa using this

theorem chR_le_count {w : Int} {l : List Ro} (h : TB w l) {n : Int} (hn : 0 ≤ n) (hc : ∀ x ∈ l, ((cvL l x.p).length : Int) + 1 ≤ n) : chR l ≤ n := by
  obtain ⟨s, h1, h2, h3⟩ := chR_exists l
  rw [← h3]
  rcases List.eq_nil_or_concat s with rfl | ⟨t, x, rfl⟩
  · exact hn
  · rw [List.concat_eq_append] at *
    have hp := h1
    unfold IsCh at hp
    rw [List.pairwise_append] at hp
    obtain ⟨p1, _, p3⟩ := hp
    have hx : x ∈ l := h2 x (by simp)
    have tl : ∀ y ∈ t, y ∈ l := fun y hy => h2 y (by simp [hy])
    have ts : t.Pairwise fun a b => cpP a.p b.p < 0 := p1.imp_of_mem fun {a b} ha hb hab => ovP_lt (h.rip (tl a ha)) (h.rip (tl b hb)) (ovP_iff.2 hab)
    have e : t = (cvL l x.p).filter fun y => decide (y ∈ t) := tb_ext ts ((h.sorted.filter _).filter _) fun y => by
      rw [List.mem_filter, decide_eq_true_eq, mem_cvL]
      constructor
      · intro hy
        exact ⟨⟨tl y hy, ovP_iff.2 (p3 y hy x (by simp))⟩, hy⟩
      · intro hy
        exact hy.2
    have hl : t.length ≤ (cvL l x.p).length := by
      rw [e]; exact List.length_filter_le _ _
    have := hc x hx
    rw [List.length_append]
    simp only [List.length_cons, List.length_nil]
    omega

/-- What covers a table's route stands ahead of it. -/
theorem cvL_take {w : Int} {l : List Ro} (h : TB w l) {i : Nat} (hi : i < l.length) : cvL l (at' l i).p = cvL (l.take i) (at' l i).p := by
  have e : l = l.take i ++ l.drop i := (List.take_append_drop i l).symm
  have hn : cvL (l.drop i) (at' l i).p = [] := by
    unfold cvL
    rw [List.filter_eq_nil_iff]
    intro y hy ho
    have hy' : y ∈ l := List.mem_of_mem_drop hy
    have a := ovP_lt (h.rip hy') (h.rip (at_mem hi)) ho
    obtain ⟨k, hk, rfl⟩ := List.mem_iff_getElem.1 hy
    rw [List.length_drop] at hk
    rw [List.getElem_drop] at a
    have e2 : l[i + k] = at' l (i + k) := by have := at_get (show i + k < l.length by omega); rw [List.getElem?_eq_getElem (by omega)] at this; exact Option.some_inj.1 this
    rw [e2] at a
    rcases Nat.eq_zero_or_pos k with rfl | h0
    · rw [Nat.add_zero, cpP_self] at a; omega
    · have := cpP_trans a (h.at (show i < i + k by omega) (by omega))
      rw [cpP_self] at this; omega
  have key : ∀ m : List Ro, m = l.take i ++ l.drop i → cvL m (at' l i).p = cvL (l.take i) (at' l i).p := fun m hm => by
    rw [hm]
    have : cvL (l.take i ++ l.drop i) (at' l i).p = cvL (l.take i) (at' l i).p ++ cvL (l.drop i) (at' l i).p := List.filter_append _ _
    rw [this, hn, List.append_nil]
  exact key l e

/-- What stands between a prefix and one that it covers is covered, too. -/
theorem ovP_between {w : Int} {y m x : Pf} (hy : riP w y = true) (hm : riP w m = true) (h : ovP y x = true) (h1 : cpP y m < 0) (h2 : cpP m x < 0) : ovP y m = true := by
  obtain ⟨a1, a2⟩ := cvP_iff.1 (ovP_iff.1 h).2
  obtain ⟨_, y1, y2, y3⟩ := riP_iff.1 hy
  obtain ⟨_, m1, m2, m3⟩ := riP_iff.1 hm
  have hne : m ≠ y := fun e => by rw [e, cpP_self] at h1; omega
  have ym : V y.a y.b ≤ V m.a m.b := by rcases cpP_lt.1 h1 with h | h <;> omega
  have mx : V m.a m.b ≤ V x.a x.b := by rcases cpP_lt.1 h2 with h | h <;> omega
  -- bit for bit, up to y's length
  have bits : ∀ n : Nat, n ≤ 128 → (n : Int) ≤ y.len → ∀ i, i < n → bitAt y.a y.b i = bitAt m.a m.b i := by
    intro n
    induction n with
    | zero => intro _ _ i hi; omega
    | succ n ih =>
      intro hn hl i hi
      have ih' := ih (by omega) (by omega)
      rcases Nat.lt_or_eq_of_le (Nat.le_of_lt_succ hi) with h' | rfl
      · exact ih' i h'
      · have xy : bitAt y.a y.b i = bitAt x.a x.b i := a2 i (by omega) (by omega)
        cases hb : bitAt m.a m.b i with
        | true =>
          cases hc : bitAt y.a y.b i with
          | true => rfl
          | false =>
            have := V_less (a := x.a) (b := x.b) (c := m.a) (d := m.b) (n := i) (by omega) (fun k hk => by rw [← a2 k (by omega) (by omega)]; exact ih' k hk) (by rw [← xy]; exact hc) hb
            omega
        | false =>
          cases hc : bitAt y.a y.b i with
          | false => rfl
          | true =>
            have := V_less (a := m.a) (b := m.b) (c := y.a) (d := y.b) (n := i) (by omega) (fun k hk => (ih' k hk).symm) hb hc
            omega
  have all : ∀ i : Nat, i < 128 → (i : Int) < y.len → bitAt y.a y.b i = bitAt m.a m.b i := fun i hi hl => bits (i + 1) (by omega) (by omega) i (by omega)
  refine ovP_iff.2 ⟨hne, cvP_iff.2 ⟨?_, all⟩⟩
  by_cases hl : y.len ≤ m.len
  · exact hl
  · exfalso
    have e : V m.a m.b ≤ V y.a y.b := V_sub fun i hi hb => by
      by_cases h' : (i : Int) < m.len
      · rw [all i hi (by omega)]; exact hb
      · rw [m3 i hi (by omega)] at hb; cases hb
    rcases cpP_lt.1 h1 with h' | h'
    · omega
    · omega

/-- What covers a table's route, but the one ahead of it, covers that one. -/
theorem cvL_step {w : Int} {l : List Ro} (h : TB w l) {i : Nat} (hi : i + 1 < l.length) : cvL l (at' l (i + 1)).p = (cvL l (at' l i).p ++ [at' l i]).filter fun y => ovP y.p (at' l (i + 1)).p := by
  have hi' : i < l.length := by omega
  have hlt := h.at (show i < i + 1 by omega) hi
  have hs : (cvL l (at' l i).p ++ [at' l i]).Pairwise fun x y => cpP x.p y.p < 0 := by
    rw [List.pairwise_append]
    refine ⟨h.sorted.filter _, List.pairwise_singleton _ _, fun a ha b hb => ?_⟩
    obtain rfl := List.mem_singleton.1 hb
    obtain ⟨a1, a2⟩ := mem_cvL.1 ha
    exact ovP_lt (h.rip a1) (h.rip (at_mem hi')) a2
  refine tb_ext (h.sorted.filter _) (hs.filter _) fun y => ?_
  rw [mem_cvL, List.mem_filter, List.mem_append, mem_cvL, List.mem_singleton]
  constructor
  · rintro ⟨hy, ho⟩
    refine ⟨?_, ho⟩
    by_cases e : y = at' l i
    · exact .inr e
    · refine .inl ⟨hy, ?_⟩
      obtain ⟨k, hk, rfl⟩ := mem_at hy
      have a := ovP_lt (h.rip hy) (h.rip (at_mem hi)) ho
      have hk1 : k < i := by
        rcases Nat.lt_trichotomy k i with h' | h' | h'
        · exact h'
        · exact absurd (by rw [h']) e
        · exfalso
          rcases Nat.lt_or_eq_of_le (show i + 1 ≤ k from h') with h'' | h''
          · have := cpP_trans a (h.at h'' hk)
            rw [cpP_self] at this; omega
          · rw [← h'', cpP_self] at a; omega
      exact ovP_between (h.rip hy) (h.rip (at_mem hi')) ho (h.at hk1 hi') hlt
  · rintro ⟨hy | rfl, ho⟩
    · exact ⟨hy.1, ho⟩
    · exact ⟨at_mem hi', ho⟩

/- The best route and the nearest one, by a walk over a table, or by its order. -/

/-- Of two that match an address, the one ahead is the shorter one. -/
theorem mt_order {w : Int} {y z : Pf} {c d : BitVec 64} (hy : riP w y = true) (hz : riP w z = true) (h1 : mtP y c d = true) (h2 : mtP z c d = true) (h : cpP y z < 0) : y.len < z.len := by
  by_cases hl : y.len < z.len
  · exact hl
  · exfalso
    have e : z ≠ y := fun e => by rw [e, cpP_self] at h; omega
    have := ovP_lt hz hy (ovP_iff.2 ⟨fun e' => e e'.symm, cvP_iff.2 ⟨by omega, fun i hi hi2 => by rw [mtP_iff.1 h2 i hi hi2, mtP_iff.1 h1 i hi (by omega)]⟩⟩)
    have := cpP_trans h this
    rw [cpP_self] at this
    omega

/-- The last one of a table that matches is the best one. -/
theorem bsR_last {w : Int} {l : List Ro} (h : TB w l) {c d : BitVec 64} {i : Nat} (hi : i < l.length) (hm : mtP (at' l i).p c d = true) (hl : ∀ j, i < j → j < l.length → mtP (at' l j).p c d = false) : bsR l c d = some (at' l i) :=
  bsR_max h (at_mem hi) hm fun y hy hy2 => by
    obtain ⟨j, hj, rfl⟩ := mem_at hy
    rcases Nat.lt_trichotomy j i with h' | rfl | h'
    · exact Int.le_of_lt (mt_order (h.rip hy) (h.rip (at_mem hi)) hy2 hm (h.at h' hi))
    · exact Int.le_refl _
    · rw [hl j h' hj] at hy2; cases hy2

theorem bsR_noneT {w : Int} {l : List Ro} (h : TB w l) {c d : BitVec 64} (hl : ∀ j, j < l.length → mtP (at' l j).p c d = false) : bsR l c d = none :=
  bsR_none fun j hj => by rw [okR_tb h (at_mem hj)]; exact hl j hj

/-- The best one, by any walk that keeps the longest. -/
theorem bsR_scan {w : Int} {l : List Ro} (h : TB w l) {c d : BitVec 64} {r : Int} (hr : FbX (fun x => mtP x.p c d) lnR l l.length r) : bsR l c d = if r < 0 then none else some (at' l r.toNat) := by
  rcases hr with ⟨rfl, h2⟩ | ⟨i, rfl, hi, h1, h2⟩
  · rw [if_pos (by omega), bsR_noneT h h2]
  · rw [if_neg (by omega)]
    refine (bsR_max h (at_mem hi) h1 fun y hy hm => ?_).trans rfl
    obtain ⟨j, hj, rfl⟩ := mem_at hy
    exact (h2 j hj hm).1

/-- To cover, and not to be it: to match its address, and to be shorter. -/
theorem ovP_short {w w' : Int} {p q : Pf} (hp : riP w p = true) (hq : riP w' q = true) : ovP p q = true ↔ p.len < q.len ∧ mtP p q.a q.b = true := by
  rw [ovP_iff, cvP_iff, mtP_iff]
  constructor
  · rintro ⟨h1, h2, h3⟩
    refine ⟨?_, h3⟩
    rcases Int.lt_or_eq_of_le h2 with h | h
    · exact h
    · exact absurd (riP_eq hq hp h.symm (c := q.a) (d := q.b) (mtP_iff.2 fun i _ _ => rfl) (mtP_iff.2 h3)) h1
  · rintro ⟨h1, h2⟩
    exact ⟨fun e => by rw [e] at h1; omega, Int.le_of_lt h1, h2⟩

theorem mem_short {l : List Ro} {n : Int} {x : Ro} : x ∈ l.filter (fun x => decide (x.p.len < n)) ↔ x ∈ l ∧ x.p.len < n := by
  rw [List.mem_filter, decide_eq_true_eq]

theorem cvrR_none {w w' : Int} {l : List Ro} (h : TB w l) {p : Pf} (hp : riP w' p = true) (hl : ∀ j, j < l.length → ovP (at' l j).p p = false) : cvrR l p = none := by
  rcases bsR_tb (shorter_tb h p.len) p.a p.b with ⟨h1, _⟩ | ⟨x, hx, _, h2, _⟩
  · exact h1
  · obtain ⟨a, b⟩ := mem_short.1 hx
    obtain ⟨j, hj, rfl⟩ := mem_at a
    have := (ovP_short (h.rip a) hp).2 ⟨b, h2⟩
    rw [hl j hj] at this
    cases this

theorem cvrR_max {w w' : Int} {l : List Ro} (h : TB w l) {p : Pf} (hp : riP w' p = true) {x : Ro} (hx : x ∈ l) (ho : ovP x.p p = true) (hm : ∀ y ∈ l, ovP y.p p = true → y.p.len ≤ x.p.len) : cvrR l p = some x := by
  obtain ⟨a, b⟩ := (ovP_short (h.rip hx) hp).1 ho
  exact bsR_max (shorter_tb h p.len) (mem_short.2 ⟨hx, a⟩) b fun y hy hy2 => by
    obtain ⟨c, d⟩ := mem_short.1 hy
    exact hm y c ((ovP_short (h.rip c) hp).2 ⟨d, hy2⟩)

/-- The nearest one that covers, by any walk that keeps the longest; by the order. -/
theorem cvrR_scan {w w' : Int} {l : List Ro} (h : TB w l) {p : Pf} (hp : riP w' p = true) {r : Int} (hr : FbX (fun x => ovP x.p p) lnR l l.length r) : cvrR l p = if r < 0 then none else some (at' l r.toNat) := by
  rcases hr with ⟨rfl, h2⟩ | ⟨i, rfl, hi, h1, h2⟩
  · rw [if_pos (by omega), cvrR_none h hp h2]
  · rw [if_neg (by omega)]
    refine (cvrR_max h hp (at_mem hi) h1 fun y hy hm => ?_).trans rfl
    obtain ⟨j, hj, rfl⟩ := mem_at hy
    exact (h2 j hj hm).1

theorem cvrR_last {w w' : Int} {l : List Ro} (h : TB w l) {p : Pf} (hp : riP w' p = true) {i : Nat} (hi : i < l.length) (ho : ovP (at' l i).p p = true) (hl : ∀ j, i < j → j < l.length → ovP (at' l j).p p = false) : cvrR l p = some (at' l i) :=
  cvrR_max h hp (at_mem hi) ho fun y hy hy2 => by
    obtain ⟨j, hj, rfl⟩ := mem_at hy
    rcases Nat.lt_trichotomy j i with h' | rfl | h'
    · exact Int.le_of_lt (mt_order (h.rip hy) (h.rip (at_mem hi)) ((ovP_short (h.rip hy) hp).1 hy2).2 ((ovP_short (h.rip (at_mem hi)) hp).1 ho).2 (h.at h' hi))
    · exact Int.le_refl _
    · rw [hl j h' hj] at hy2; cases hy2

/-- The stack of those that are open: what covers a table's route, and it. -/
def opR (l : List Ro) (i : Nat) : List Ro := cvL l (at' l i).p ++ [at' l i]

theorem opR_step {w : Int} {l : List Ro} (h : TB w l) {i : Nat} (hi : i + 1 < l.length) : opR l (i + 1) = (opR l i).filter (fun y => ovP y.p (at' l (i + 1)).p) ++ [at' l (i + 1)] := by
  unfold opR
  rw [cvL_step h hi]

theorem opR_zero {w : Int} {l : List Ro} (h : TB w l) (hi : 0 < l.length) : opR l 0 = [at' l 0] := by
  unfold opR
  rw [cvL_take h hi]
  rfl

/-- Those that stay open are the first ones. -/
theorem opR_prefix {w : Int} {l : List Ro} (h : TB w l) {i : Nat} (hi : i + 1 < l.length) {a b : Nat} (hab : a < b) (hb : b < (opR l i).length) (ho : ovP (at' (opR l i) b).p (at' l (i + 1)).p = true) : ovP (at' (opR l i) a).p (at' l (i + 1)).p = true := by
  have hi' : i < l.length := by omega
  have hc : IsCh (opR l i) := by
    unfold opR IsCh
    rw [List.pairwise_append]
    refine ⟨cvL_chain h _, List.pairwise_singleton _ _, fun a ha b hb => ?_⟩
    obtain rfl := List.mem_singleton.1 hb
    exact ovP_iff.1 (mem_cvL.1 ha).2
  have ha : a < (opR l i).length := by omega
  have := List.pairwise_iff_getElem.1 hc a b ha hb hab
  have e1 : (opR l i)[a] = at' (opR l i) a := by have := at_get ha; rw [List.getElem?_eq_getElem ha] at this; exact Option.some_inj.1 this
  have e2 : (opR l i)[b] = at' (opR l i) b := by have := at_get hb; rw [List.getElem?_eq_getElem hb] at this; exact Option.some_inj.1 this
  rw [e1, e2] at this
  obtain ⟨n1, n2⟩ := this
  obtain ⟨o1, o2⟩ := ovP_iff.1 ho
  obtain ⟨c1, c2⟩ := cvP_iff.1 n2
  obtain ⟨d1, d2⟩ := cvP_iff.1 o2
  have mem : ∀ k, k < (opR l i).length → at' (opR l i) k ∈ l := fun k hk => by
    have all : ∀ y, y ∈ opR l i → y ∈ l := fun y hy => by
      unfold opR at hy
      rcases List.mem_append.1 hy with h' | h'
      · exact (mem_cvL.1 h').1
      · rw [List.mem_singleton.1 h']; exact at_mem hi'
    exact all _ (at_mem hk)
  have l1 := ovP_lt (h.rip (mem a ha)) (h.rip (mem b hb)) (ovP_iff.2 ⟨n1, n2⟩)
  have l2 := ovP_lt (h.rip (mem b hb)) (h.rip (at_mem hi)) ho
  refine ovP_iff.2 ⟨fun e => ?_, cvP_iff.2 ⟨by omega, fun k hk hk2 => by rw [c2 k hk hk2, d2 k hk (by omega)]⟩⟩
  rw [e] at l2
  have := cpP_trans l1 l2
  rw [cpP_self] at this
  omega

/-- The most that were open at once. -/
theorem chR_open {w : Int} {l : List Ro} (h : TB w l) {n : Int} (h0 : 0 ≤ n) (h1 : ∀ i, i < l.length → ((opR l i).length : Int) ≤ n) (h2 : n = 0 ∨ ∃ i, i < l.length ∧ n = ((opR l i).length : Int)) : chR l = n := by
  have len : ∀ i, ((opR l i).length : Int) = ((cvL l (at' l i).p).length : Int) + 1 := fun i => by
    unfold opR
    rw [List.length_append]; simp
  have a : chR l ≤ n := chR_le_count h h0 fun x hx => by
    obtain ⟨i, hi, rfl⟩ := mem_at hx
    rw [← len]; exact h1 i hi
  rcases h2 with rfl | ⟨i, hi, rfl⟩
  · obtain ⟨s, _, _, e⟩ := chR_exists l
    omega
  · have := count_le_chR h (at_mem hi)
    rw [← len] at this
    omega

end Go.Sx.M
