/-
  Texts in one: L6R L9C L9P.
-/
import Derived.Test.YtnjbgbdcbejciaaL6a
import Derived.Test.YtnjbgbdcbejciaaL9a

section
/-
  Layer 6: where a prefix is in a table, or would be: plain mathematics.
-/
namespace Go.Sx.M
open Go.Proofs.Ytnjbgbdcbejciaa.L1

/-- It is that place. -/
def PlN (l : List Ro) (p : Pf) (i : Nat) : Prop := i ≤ l.length ∧ (∀ t, t < i → cpP (at' l t).p p < 0) ∧ (i < l.length → ¬ cpP (at' l i).p p < 0)

/-- The route at a prefix's place is its own, or it has none. -/
theorem fd_place {w : Int} {l : List Ro} (h : TB w l) {p : Pf} {i : Nat} (hp : PlN l p i) : (fdR l p = none ∧ ∀ x ∈ l, x.p ≠ p) ∧ (i < l.length → cpP (at' l i).p p ≠ 0) ∨ i < l.length ∧ cpP (at' l i).p p = 0 ∧ (at' l i).p = p ∧ fdR l p = some (at' l i) := by
  obtain ⟨h1, h2, h3⟩ := hp
  by_cases hc : i < l.length ∧ cpP (at' l i).p p = 0
  · have e := cpP_zero.1 hc.2
    refine .inr ⟨hc.1, hc.2, e, ?_⟩
    have := fdR_tb h (at_mem hc.1)
    rw [e] at this
    exact this
  · have hne : ∀ x ∈ l, x.p ≠ p := by
      intro x hx
      obtain ⟨j, hj, rfl⟩ := mem_at hx
      intro e
      rcases Nat.lt_trichotomy j i with h' | rfl | h'
      · have := h2 j h'; rw [e, cpP_self] at this; omega
      · exact hc ⟨hj, by rw [e, cpP_self]⟩
      · have a := h.at h' hj
        have b := h3 (by omega)
        rw [e] at a
        exact b a
    refine .inl ⟨⟨?_, hne⟩, fun hi hz => hc ⟨hi, hz⟩⟩
    rcases fdR_cases l p with h' | ⟨x, hx, e, _⟩
    · exact h'.1
    · exact absurd e (hne x hx)

/-- A table's prefix covers another one's, that is not it. -/
theorem cv_ov {w : Int} {l : List Ro} (h : TB w l) {i : Nat} (hi : i < l.length) {q : Pf} (hq : ∃ j, j < i ∧ (at' l j).p = q) : cvP q (at' l i).p = ovP q (at' l i).p := by
  obtain ⟨j, hj, rfl⟩ := hq
  have hne : (at' l i).p ≠ (at' l j).p := fun e => by
    have := h.at hj hi
    rw [e, cpP_self] at this; omega
  unfold ovP
  rw [decide_eq_false hne]
  simp

/-- A filter whose hits come first. -/
theorem filter_take {T : Type} [Inhabited T] {f : T → Bool} : ∀ {m : List T} {k : Nat}, k ≤ m.length → (∀ t, t < k → f (at' m t) = true) → (∀ t, k ≤ t → t < m.length → f (at' m t) = false) → m.filter f = m.take k
  | [], k, h, _, _ => by simp
  | y :: m, 0, _, _, h3 => by
    rw [List.take_zero, List.filter_eq_nil_iff]
    intro x hx
    obtain ⟨j, hj, rfl⟩ := mem_at hx
    rw [h3 j (Nat.zero_le _) hj]; simp
  | y :: m, k + 1, h1, h2, h3 => by
    have h0 : f y = true := h2 0 (by omega)
    rw [List.filter_cons_of_pos h0, List.take_succ_cons, filter_take (by simpa using h1) (fun t ht => h2 (t + 1) (by omega)) fun t ht hl => h3 (t + 1) (by omega) (by simpa using hl)]

end Go.Sx.M
end

section
/-
  Layer 9: those kept routes that are still open, by a stack: plain mathematics of the program's way.
-/
namespace Go.Sx.M
open Go.Proofs.Ytnjbgbdcbejciaa.L1

/-- Of those that are kept of the first i routes, those that cover the last of these, or are it. -/
def knR (l : List Ro) (i : Nat) : List Ro := if i = 0 then [] else (kpR (l.take i)).filter fun x => cvP x.p (at' l (i - 1)).p

theorem take_tb {w : Int} {l : List Ro} (h : TB w l) (i : Nat) : TB w (l.take i) := h.sub (List.take_sublist _ _)

theorem kpT_at {l : List Ro} {i : Nat} {x : Ro} (hx : x ∈ kpR (l.take i)) : ∃ j, j < i ∧ j < l.length ∧ at' l j = x := mem_take (kpR_mem hx)

theorem kpT_le (l : List Ro) (i : Nat) : (kpR (l.take i)).length ≤ i := Nat.le_trans (kpR_sub _).length_le (by rw [List.length_take]; omega)

theorem kpT_next {l : List Ro} {i : Nat} (hi : i < l.length) : kpR (l.take (i + 1)) = if saysR (cvrR (kpR (l.take i)) (at' l i).p) (at' l i) = true then kpR (l.take i) ++ [at' l i] else kpR (l.take i) := by
  rw [List.take_add_one, at_get hi]
  exact kpR_snoc _ _

theorem kpT_all (l : List Ro) : kpR (l.take l.length) = kpR l := by rw [List.take_length]

theorem kn_le (l : List Ro) (i : Nat) : (knR l i).length ≤ i := by
  unfold knR
  split
  · simp
  · exact Nat.le_trans (List.length_filter_le _ _) (kpT_le l i)

theorem cv_refl (p : Pf) : cvP p p = true := cvP_iff.2 ⟨Int.le_refl _, fun _ _ _ => rfl⟩

theorem cv_two {w : Int} {y z x : Pf} (hy : riP w y = true) (hz : riP w z = true) (h1 : cvP y x = true) (h2 : cvP z x = true) (h : cpP y z < 0) : ovP y z = true := by
  obtain ⟨a1, a2⟩ := cvP_iff.1 h1
  obtain ⟨b1, b2⟩ := cvP_iff.1 h2
  have hne : z ≠ y := fun e => by rw [e, cpP_self] at h; omega
  by_cases hl : y.len ≤ z.len
  · exact ovP_iff.2 ⟨hne, cvP_iff.2 ⟨hl, fun i hi hi2 => by rw [a2 i hi hi2, b2 i hi (by omega)]⟩⟩
  · have := ovP_lt hz hy (ovP_iff.2 ⟨fun e => hne e.symm, cvP_iff.2 ⟨by omega, fun i hi hi2 => by rw [b2 i hi hi2, a2 i hi (by omega)]⟩⟩)
    have := cpP_trans h this
    rw [cpP_self] at this
    omega

theorem ov_trans {w : Int} {y z x : Pf} (hy : riP w y = true) (hz : riP w z = true) (hx : riP w x = true) (h1 : ovP y z = true) (h2 : ovP z x = true) : ovP y x = true := by
  obtain ⟨a1, a2⟩ := cvP_iff.1 (ovP_iff.1 h1).2
  obtain ⟨b1, b2⟩ := cvP_iff.1 (ovP_iff.1 h2).2
  have l1 := ovP_lt hy hz h1
  have l2 := ovP_lt hz hx h2
  refine ovP_iff.2 ⟨fun e => ?_, cvP_iff.2 ⟨by omega, fun k hk hk2 => by rw [a2 k hk hk2, b2 k hk (by omega)]⟩⟩
  rw [e] at l2
  have := cpP_trans l1 l2
  rw [cpP_self] at this
  omega

/-- Of the kept ones ahead of a route, those that cover it are open. -/
theorem kn_cover {w : Int} {l : List Ro} (h : TB w l) {n : Nat} (hn : n + 1 < l.length) : cvL (kpR (l.take (n + 1))) (at' l (n + 1)).p = (knR l (n + 1)).filter fun x => ovP x.p (at' l (n + 1)).p := by
  have hk := kpR_tb (take_tb h (n + 1))
  have e : knR l (n + 1) = (kpR (l.take (n + 1))).filter fun x => cvP x.p (at' l n).p := by unfold knR; rw [if_neg (by omega), Nat.add_sub_cancel]
  refine tb_ext (hk.sorted.filter _) (by rw [e]; exact (hk.sorted.filter _).filter _) fun x => ?_
  rw [mem_cvL, e, List.mem_filter, List.mem_filter]
  refine ⟨fun ⟨h1, h2⟩ => ⟨⟨h1, ?_⟩, h2⟩, fun ⟨⟨h1, _⟩, h2⟩ => ⟨h1, h2⟩⟩
  obtain ⟨j, hj, hjl, rfl⟩ := kpT_at h1
  rcases Nat.lt_or_eq_of_le (Nat.le_of_lt_succ hj) with hj | rfl
  · exact (ovP_iff.1 (ovP_between (h.rip (at_mem hjl)) (h.rip (at_mem (show n < l.length by omega))) h2 (h.at hj (by omega)) (h.at (Nat.lt_succ_self n) hn))).2
  · exact cv_refl _

/-- Those of them that cover the next one come first. -/
theorem kn_first {w : Int} {l : List Ro} (h : TB w l) {n : Nat} (hn : n + 1 < l.length) {a b : Nat} (hab : a < b) (hb : b < (knR l (n + 1)).length) (ho : ovP (at' (knR l (n + 1)) b).p (at' l (n + 1)).p = true) : ovP (at' (knR l (n + 1)) a).p (at' l (n + 1)).p = true := by
  have hk := kpR_tb (take_tb h (n + 1))
  have e : knR l (n + 1) = (kpR (l.take (n + 1))).filter fun x => cvP x.p (at' l n).p := by unfold knR; rw [if_neg (by omega), Nat.add_sub_cancel]
  have hc : TB w (knR l (n + 1)) := by rw [e]; exact hk.sub List.filter_sublist
  have mem : ∀ x, x ∈ knR l (n + 1) → cvP x.p (at' l n).p = true := fun x hx => by rw [e] at hx; exact (List.mem_filter.1 hx).2
  have ma := at_mem (show a < (knR l (n + 1)).length by omega)
  have mb := at_mem hb
  exact ov_trans (hc.rip ma) (hc.rip mb) (h.rip (at_mem hn)) (cv_two (hc.rip ma) (hc.rip mb) (mem _ ma) (mem _ mb) (hc.at hab hb)) ho

/-- A filter whose hits come first. -/
theorem filter_first {T : Type} [Inhabited T] {f : T → Bool} : ∀ {m : List T}, (∀ {a b}, a < b → b < m.length → f (at' m b) = true → f (at' m a) = true) → m.filter f = m.take (m.filter f).length
  | [], _ => rfl
  | y :: m, h => by
    cases e : f y with
    | true =>
      rw [List.filter_cons_of_pos e, List.length_cons, List.take_succ_cons]
      congr 1
      exact filter_first fun {a b} hab hb ho => h (a := a + 1) (b := b + 1) (by omega) (by simpa using hb) ho
    | false =>
      have hn : (y :: m).filter f = [] := List.filter_eq_nil_iff.2 fun x hx hf => by
        obtain ⟨j, hj, rfl⟩ := mem_at hx
        rcases Nat.eq_zero_or_pos j with rfl | h0
        · have hf : f y = true := hf
          rw [e] at hf; cases hf
        · have : f y = true := h h0 hj hf
          rw [e] at this; cases this
      rw [hn]; rfl

/-- An open one covers the next route, or not: it is none of the later ones. -/
theorem kn_cv {w : Int} {l : List Ro} (h : TB w l) {i : Nat} (hi : i < l.length) {x : Ro} (hx : x ∈ knR l i) : cvP x.p (at' l i).p = ovP x.p (at' l i).p := by
  refine cv_ov h hi ?_
  unfold knR at hx
  split at hx
  · cases hx
  · obtain ⟨j, hj, _, rfl⟩ := kpT_at (List.mem_filter.1 hx).1
    exact ⟨j, hj, rfl⟩

/-- Behind the steps back those that cover the route are left. -/
theorem kn_trim {w : Int} {l : List Ro} (h : TB w l) {i : Nat} (hi : i < l.length) {k : Nat} (hk : k ≤ (knR l i).length) (h1 : ∀ t, k ≤ t → t < (knR l i).length → cvP (at' (knR l i) t).p (at' l i).p = false) (h2 : 0 < k → cvP (at' (knR l i) (k - 1)).p (at' l i).p = true) :
    (knR l i).take k = cvL (kpR (l.take i)) (at' l i).p := by
  rcases Nat.eq_zero_or_pos i with rfl | h0
  · have e : knR l 0 = [] := rfl
    rw [e, List.take_nil, List.take_zero]
    rfl
  · obtain ⟨n, rfl⟩ : ∃ n, i = n + 1 := ⟨i - 1, by omega⟩
    rw [kn_cover h hi]
    refine (filter_take hk (fun t ht => ?_) fun t ht hl => ?_).symm
    · have hl : ovP (at' (knR l (n + 1)) (k - 1)).p (at' l (n + 1)).p = true := by rw [← kn_cv h hi (at_mem (by omega))]; exact h2 (by omega)
      rcases Nat.lt_or_eq_of_le (show t ≤ k - 1 by omega) with h' | rfl
      · exact kn_first h hi h' (by omega) hl
      · exact hl
    · rw [← kn_cv h hi (at_mem hl)]; exact h1 t ht hl

/-- Those that are open behind a route: what covers it, and it, where it is kept. -/
theorem kn_next {w : Int} {l : List Ro} (h : TB w l) {i : Nat} (hi : i < l.length) : knR l (i + 1) = if saysR (cvrR (kpR (l.take i)) (at' l i).p) (at' l i) = true then cvL (kpR (l.take i)) (at' l i).p ++ [at' l i] else cvL (kpR (l.take i)) (at' l i).p := by
  have e : knR l (i + 1) = (kpR (l.take (i + 1))).filter fun x => cvP x.p (at' l i).p := by unfold knR; rw [if_neg (by omega), Nat.add_sub_cancel]
  have hc : (kpR (l.take i)).filter (fun x => cvP x.p (at' l i).p) = cvL (kpR (l.take i)) (at' l i).p := by
    unfold cvL
    refine List.filter_congr fun x hx => ?_
    obtain ⟨j, hj, _, rfl⟩ := kpT_at hx
    exact cv_ov h hi ⟨j, hj, rfl⟩
  rw [e, kpT_next hi]
  split
  · have e1 : [at' l i].filter (fun x => cvP x.p (at' l i).p) = [at' l i] := by rw [List.filter_cons, if_pos (cv_refl _), List.filter_nil]
    rw [List.filter_append, hc, e1]
  · exact hc

/-- The nearest kept one that covers a prefix is the last of those that cover it. -/
theorem cvL_last {w w' : Int} {k : List Ro} (hk : TB w k) {p : Pf} (hp : riP w' p = true) : cvrR k p = if (cvL k p).length = 0 then none else some (at' (cvL k p) ((cvL k p).length - 1)) := by
  split
  · rename_i h0
    refine cvrR_none hk hp fun j hj => ?_
    cases e : ovP (at' k j).p p with
    | false => rfl
    | true =>
      have := mem_cvL.2 ⟨at_mem hj, e⟩
      rw [List.length_eq_zero_iff.1 h0] at this
      cases this
  · rename_i h0
    have hc : TB w (cvL k p) := hk.sub List.filter_sublist
    have hm := at_mem (show (cvL k p).length - 1 < (cvL k p).length by omega)
    obtain ⟨m1, m2⟩ := mem_cvL.1 hm
    refine cvrR_max hk hp m1 m2 fun y hy ho => ?_
    obtain ⟨j, hj, rfl⟩ := mem_at (mem_cvL.2 ⟨hy, ho⟩)
    rcases Nat.lt_or_eq_of_le (show j ≤ (cvL k p).length - 1 by omega) with h' | h'
    · exact Int.le_of_lt (mt_order (hc.rip (at_mem hj)) (hc.rip hm) ((ovP_short (hk.rip hy) hp).1 ho).2 ((ovP_short (hk.rip m1) hp).1 m2).2 (hc.at h' (by omega)))
    · rw [h']; exact Int.le_refl _

theorem at_takeN {T : Type} [Inhabited T] {l : List T} {n t : Nat} (h : t < n) : at' (l.take n) t = at' l t := by
  unfold at'
  rw [List.getD_eq_getElem?_getD, List.getD_eq_getElem?_getD, List.getElem?_take, if_pos h]

/-- Whether a route says something else, by the stack behind the steps back. -/
theorem kn_says {w : Int} {l : List Ro} (h : TB w l) {i : Nat} (hi : i < l.length) {k : Nat} (hk : k ≤ (knR l i).length) (he : (knR l i).take k = cvL (kpR (l.take i)) (at' l i).p) :
    saysR (cvrR (kpR (l.take i)) (at' l i).p) (at' l i) = (decide (k = 0) || (at' (knR l i) (k - 1)).act != (at' l i).act) := by
  have hl : (cvL (kpR (l.take i)) (at' l i).p).length = k := by rw [← he, List.length_take]; omega
  rw [cvL_last (kpR_tb (take_tb h i)) (h.rip (at_mem hi)), hl]
  rcases Nat.eq_zero_or_pos k with rfl | h0
  · rfl
  · rw [if_neg (by omega), ← he, at_takeN (by omega), decide_eq_false (by omega), Bool.false_or]
    show (!decide _) = !(_ == _)
    congr 1

/-- What the stack's memory holds. -/
def rwR (l : List Ro) : Nat → List Ro
  | 0 => []
  | i + 1 => if saysR (cvrR (kpR (l.take i)) (at' l i).p) (at' l i) = true then knR l (i + 1) else rwR l i

/-- It begins with the open ones. -/
theorem rw_take {w : Int} {l : List Ro} (h : TB w l) : ∀ i, i ≤ l.length → (rwR l i).take (knR l i).length = knR l i ∧ (rwR l i).length ≤ i
  | 0, _ => ⟨rfl, Nat.le_refl _⟩
  | i + 1, hi => by
    obtain ⟨h1, h2⟩ := rw_take h i (by omega)
    have hi : i < l.length := hi
    unfold rwR
    split
    · exact ⟨List.take_length, kn_le l _⟩
    · rename_i hs
      refine ⟨?_, by omega⟩
      rw [kn_next h hi, if_neg hs]
      obtain ⟨m, hm⟩ : ∃ m, cvL (kpR (l.take i)) (at' l i).p = (knR l i).take m := by
        rcases Nat.eq_zero_or_pos i with rfl | h0
        · exact ⟨0, rfl⟩
        · obtain ⟨n, rfl⟩ : ∃ n, i = n + 1 := ⟨i - 1, by omega⟩
          exact ⟨_, (kn_cover h hi).trans (filter_first fun hab hb ho => kn_first h hi hab hb ho)⟩
      have hl : (knR l i).length ≤ (rwR l i).length := by rw [← h1, List.length_take]; exact Nat.min_le_right _ _
      rw [hm, List.length_take]
      conv => rhs; rw [← h1, List.take_take]

theorem rw_le {w : Int} {l : List Ro} (h : TB w l) {i : Nat} (hi : i ≤ l.length) : (knR l i).length ≤ (rwR l i).length := by
  have := congrArg List.length (rw_take h i hi).1
  rw [List.length_take] at this
  omega

theorem rw_at {w : Int} {l : List Ro} (h : TB w l) {i : Nat} (hi : i ≤ l.length) {t : Nat} (ht : t < (knR l i).length) : at' (rwR l i) t = at' (knR l i) t := by
  have := at_takeN (l := rwR l i) ht
  rw [(rw_take h i hi).1] at this
  exact this.symm

theorem rw_first {w : Int} {l : List Ro} (h : TB w l) {i : Nat} (hi : i ≤ l.length) {k : Nat} (hk : k ≤ (knR l i).length) : (rwR l i).take k = (knR l i).take k := by
  have e : (knR l i).take k = ((rwR l i).take (knR l i).length).take k := by rw [(rw_take h i hi).1]
  rw [e, List.take_take]
  congr 1
  omega

end Go.Sx.M
end

section
/-
  Layer 9: contracts of the program's calls: Keep by a stack of those kept routes that are open, Saved, Needs.
-/
namespace Go.Proofs.Ytnjbgbdcbejciaa.L1
open Go.Sx Go.Sx.M

def kqFn : AV := .func (.func 80) [] [.ptr 3 0 0 true]
def kqSt (F : List Ro → List AV) (l : List Ro) (p : Nat) : St :=
  ⟨[.any, .any, .any, .vsl 1 0 (kpR (l.take p)).length, .vsl 2 0 (knR l p).length, .any, .any, .any, .vsl 0 0 (l.map roE).length, .int .i64 (l.map roE).length, .int .i64 p, .any, .any, .any, .any, .any, .any, .any, .any, .any, .any, .any, .any, .any, .any, .any, .any, .any, .any, .any, .any, .any, .any, .any, .any, .any, .any, .any, .any, .any, .any, .any], [some ⟨false, 73, 4, true, l.map roE⟩, some ⟨true, 73, 4, true, F (kpR (l.take p))⟩, some ⟨true, 73, 4, true, F (rwR l p)⟩]⟩
def kqSt2 (F : List Ro → List AV) (l : List Ro) (p k : Nat) : St :=
  ⟨[.vsl 2 0 (knR l p).length, kqFn, .any, .any, .any, .int .i64 k, .any, .any, .any, .any, .any, .any, .any, .any, .any, .any, .any, .any, .any, .any, .any, .any, .any, .any, .any], [some ⟨false, 73, 4, true, l.map roE⟩, some ⟨true, 73, 4, true, F (kpR (l.take p))⟩, some ⟨true, 73, 4, true, F (rwR l p)⟩, some ⟨true, 73, 4, true, [roE (at' l p)]⟩]⟩
def kqM0 : Modes := ⟨[0, 0, 0, 1, 1, 0, 0, 0, 1, 1, 2, 0, 0, 0, 0, 0, 0, 0, 0, 0, 0, 0, 0, 0, 0, 0, 0, 0, 0, 0, 0, 0, 0, 0, 0, 0, 0, 0, 0, 0, 0, 0], [], [], [], [(3, 73, 4), (4, 73, 4)]⟩
def kqM : Modes := ⟨[0, 0, 0, 1, 1, 0, 0, 0, 1, 1, 1, 0, 0, 0, 0, 0, 0, 0, 0, 0, 0, 0, 0, 0, 0, 0, 0, 0, 0, 0, 0, 0, 0, 0, 0, 0, 0, 0, 0, 0, 0, 0], [], [], [], []⟩
def kqM' : Modes := ⟨[0, 0, 0, 1, 0, 0, 0, 0, 0, 0, 0, 0, 0, 0, 0, 0, 0, 0, 0, 0, 0, 0, 0, 0, 0, 0, 0, 0, 0, 0, 0, 0, 0, 0, 0, 0, 0, 0, 0, 0, 0, 0], [], [], [], []⟩
def kqN : Modes := ⟨[1, 1, 0, 0, 0, 1, 0, 0, 0, 0, 0, 0, 0, 0, 0, 0, 0, 0, 0, 0, 0, 0, 0, 0, 0], [], [], [], []⟩
def kqI2 (l : List Ro) (p k : Nat) : Prop := k ≤ (knR l p).length ∧ ∀ t, k ≤ t → t < (knR l p).length → cvP (at' (knR l p) t).p (at' l p).p = false
def kqH (F : List Ro → List AV) (l : List Ro) : List Hint := [.linv _ 0 (kqSt F l) (fun p => p ≤ l.length) (fun p => l.length + 1 - p) kqM0 kqM kqM' (fun _ => []) fun p =>
  [.fork [.dy, .cell (roE (at' l p)), .linv _ (knR l p).length (kqSt2 F l p) (kqI2 l p) (fun k => k) kqN kqN kqN
      (fun k => [.ix k, .fork [.rows (F (kpR (l.take (p + 1)))), .rows (F (rwR l (p + 1))), .nw] [.nw, .ix (k - 1), .cell (.int .i64 (at' (knR l p) (k - 1)).act), .fork [.rows (F (kpR (l.take (p + 1)))), .rows (F (rwR l (p + 1))), .nw] [.nw]]]) fun k =>
    [.fork [.nw, .ix (k - 1), .cell (roE (at' (knR l p) (k - 1))), .fork [.nw] []] []]] []]]

noncomputable def gkeep9Cs : List (FuncId × Sx.Spec) := [(81, genSpec [none, none] coversF)]

theorem gkeep9_run (l : List Ro) (F : List Ro → List AV) (es : List AV) : run gkeep9Cs Try.prog 44 [.vsl 0 0 (l.map roE).length] [some ⟨false, (pRo.getD (0, 0)).1, (pRo.getD (0, 0)).2, true, (l.map roE)⟩] (kqH F l) (yields (.vrow 73 4 es)) =
    ((St.mk [.any, .any, .any, AV.vsl (List.length [some (Blk.mk false (73 : TypeId) 4 true (List.map roE l))]) 0 0, AV.vsl (List.length [some (Blk.mk false (73 : TypeId) 4 true (List.map roE l)), some (Blk.mk true (73 : TypeId) 4 true [])]) 0 0, .any, .any, .any, AV.vsl 0 0 (List.length (List.map roE l)), AV.int IntKind.i64 (↑(List.length (List.map roE l)) : Int), AV.int IntKind.i64 0, .any, .any, .any, .any, .any, .any, .any, .any, .any, .any, .any, .any, .any, .any, .any, .any, .any, .any, .any, .any, .any, .any, .any, .any, .any, .any, .any, .any, .any, .any, .any] ([some (Blk.mk false (73 : TypeId) 4 true (List.map roE l)), some (Blk.mk true (73 : TypeId) 4 true [])] ++ [some (Blk.mk true (73 : TypeId) 4 true [])]) = kqSt F l 0 ∧ Nat.le 0 (List.length l)) ∧ ∀ (p : Nat), Nat.le p (List.length l) → (Decidable.decide ((↑p : Int) < (↑(List.length (List.map roE l)) : Int)) = true → ((0 : Int) ≤ (↑p : Int) ∧ (↑p : Int) < (↑(List.length (List.map roE l)) : Int)) ∧ Blk.read Proofs.Try.prog (Blk.mk false (73 : TypeId) 4 true (List.map roE l)) 73 ((0 : Nat) + Int.toNat (↑p : Int)) 0 = some (AV.agg [AV.w64 (Ro.p (at' l p)).1, AV.w64 (Ro.p (at' l p)).2, AV.int IntKind.i64 (Ro.p (at' l p)).3, AV.int IntKind.i64 (at' l p).2]) ∧ (St.mk [AV.vsl ((0 : Nat) + (1 : Nat) + (1 : Nat)) 0 (List.length (knR l p)), AV.func (Fn.func 80) [] [AV.ptr ((0 : Nat) + (1 : Nat) + (1 : Nat) + (1 : Nat)) 0 0 true], .any, .any, .any, AV.int IntKind.i64 (↑(List.length (knR l p)) : Int), .any, .any, .any, .any, .any, .any, .any, .any, .any, .any, .any, .any, .any, .any, .any, .any, .any, .any, .any] [some (Blk.mk false (73 : TypeId) 4 true (List.map roE l)), some (Blk.mk true (73 : TypeId) 4 true (F (kpR (List.take p l)))), some (Blk.mk true (73 : TypeId) 4 true (F (rwR l p))), some (Blk.mk true (nat_lit 73) 4 true [AV.agg [AV.w64 (Ro.p (at' l p)).1, AV.w64 (Ro.p (at' l p)).2, AV.int IntKind.i64 (Ro.p (at' l p)).3, AV.int IntKind.i64 (at' l p).2]])] = kqSt2 F l p (List.length (knR l p)) ∧ kqI2 l p (List.length (knR l p))) ∧ ∀ (p_1 : Nat), kqI2 l p p_1 → (Decidable.decide ((↑p_1 : Int) > (0 : Int)) = true → inRange IntKind.i64 ((↑p_1 : Int) - (1 : Int)) ∧ (↑p_1 : Int) - (1 : Int) = (↑(p_1 - (1 : Nat)) : Int) ∧ p_1 - (1 : Nat) < List.length (knR l p) ∧ Blk.read Proofs.Try.prog (Blk.mk true (73 : TypeId) 4 true (F (rwR l p))) 73 ((0 : Nat) + (p_1 - (1 : Nat))) 0 = some (AV.agg [AV.w64 (Ro.p (at' (knR l p) (p_1 - (1 : Nat)))).1, AV.w64 (Ro.p (at' (knR l p) (p_1 - (1 : Nat)))).2, AV.int IntKind.i64 (Ro.p (at' (knR l p) (p_1 - (1 : Nat)))).3, AV.int IntKind.i64 (at' (knR l p) (p_1 - (1 : Nat))).2]) ∧ ((!(Decidable.decide ((Ro.p (at' (knR l p) (p_1 - (1 : Nat)))).3 ≤ (Ro.p (at' l p)).3) && matchB (Ro.p (at' (knR l p) (p_1 - (1 : Nat)))).1 (Ro.p (at' (knR l p) (p_1 - (1 : Nat)))).2 (Ro.p (at' (knR l p) (p_1 - (1 : Nat)))).3 (Ro.p (at' l p)).1 (Ro.p (at' l p)).2)) = true → inRange IntKind.i64 ((↑p_1 : Int) - (1 : Int)) ∧ ∃ (p' : Nat), St.mk [AV.vsl ((0 : Nat) + (1 : Nat) + (1 : Nat)) 0 (List.length (knR l p)), AV.func (Fn.func (80 : FuncId)) [] [AV.ptr ((0 : Nat) + (1 : Nat) + (1 : Nat) + (1 : Nat)) 0 0 true], .any, .any, .any, AV.int IntKind.i64 ((↑p_1 : Int) - (1 : Int)), .any, .any, .any, .any, .any, .any, .any, .any, .any, .any, .any, .any, .any, .any, .any, .any, .any, .any, .any] [some (Blk.mk false (73 : TypeId) 4 true (List.map roE l)), some (Blk.mk true (73 : TypeId) 4 true (F (kpR (List.take p l)))), some (Blk.mk true (73 : TypeId) 4 true (F (rwR l p))), some (Blk.mk true (73 : TypeId) 4 true [AV.agg [AV.w64 (Ro.p (at' l p)).1, AV.w64 (Ro.p (at' l p)).2, AV.int IntKind.i64 (Ro.p (at' l p)).3, AV.int IntKind.i64 (at' l p).2]])] = kqSt2 F l p p' ∧ kqI2 l p p' ∧ p' < p_1) ∧ ((!(Decidable.decide ((Ro.p (at' (knR l p) (p_1 - (1 : Nat)))).3 ≤ (Ro.p (at' l p)).3) && matchB (Ro.p (at' (knR l p) (p_1 - (1 : Nat)))).1 (Ro.p (at' (knR l p) (p_1 - (1 : Nat)))).2 (Ro.p (at' (knR l p) (p_1 - (1 : Nat)))).3 (Ro.p (at' l p)).1 (Ro.p (at' l p)).2)) = false → (↑p_1 : Int) = (↑p_1 : Int) ∧ p_1 < List.length (knR l p) + (1 : Nat) ∧ (((↑(p_1 - (0 : Nat)) : Int) == (0 : Int)) = true → ((List.length (kpR (List.take p l)) + (1 : Nat)) * (32 : Nat) ≤ (140737488355328 : Nat) ∧ List.length (kpR (List.take p l)) + (1 : Nat) ≤ (9223372036854775807 : Nat) ∧ (0 : Nat) + (1 : Nat) ≤ List.length [AV.agg [AV.w64 (Ro.p (at' l p)).1, AV.w64 (Ro.p (at' l p)).2, AV.int IntKind.i64 (Ro.p (at' l p)).3, AV.int IntKind.i64 (at' l p).2]] ∧ List.length (kpR (List.take p l)) ≤ List.length (F (kpR (List.take p l)))) ∧ List.take (List.length (kpR (List.take p l))) (F (kpR (List.take p l))) ++ [AV.agg [AV.w64 (Ro.p (at' l p)).1, AV.w64 (Ro.p (at' l p)).2, AV.int IntKind.i64 (Ro.p (at' l p)).3, AV.int IntKind.i64 (at' l p).2]] = F (kpR (List.take (p + (1 : Nat)) l)) ∧ ((p_1 - (0 : Nat) + (1 : Nat)) * (32 : Nat) ≤ (140737488355328 : Nat) ∧ p_1 - (0 : Nat) + (1 : Nat) ≤ (9223372036854775807 : Nat) ∧ (0 : Nat) + (1 : Nat) ≤ List.length [AV.agg [AV.w64 (Ro.p (at' l p)).1, AV.w64 (Ro.p (at' l p)).2, AV.int IntKind.i64 (Ro.p (at' l p)).3, AV.int IntKind.i64 (at' l p).2]] ∧ p_1 - (0 : Nat) ≤ List.length (F (rwR l p))) ∧ List.take (p_1 - (0 : Nat)) (F (rwR l p)) ++ [AV.agg [AV.w64 (Ro.p (at' l p)).1, AV.w64 (Ro.p (at' l p)).2, AV.int IntKind.i64 (Ro.p (at' l p)).3, AV.int IntKind.i64 (at' l p).2]] = F (rwR l (p + (1 : Nat))) ∧ inRange IntKind.i64 ((↑p : Int) + (1 : Int)) ∧ ∃ (p' : Nat), St.mk [.any, .any, .any, AV.vsl ((0 : Nat) + (1 : Nat)) 0 (List.length (kpR (List.take p l)) + (1 : Nat)), AV.vsl ((0 : Nat) + (1 : Nat) + (1 : Nat)) 0 (p_1 - (0 : Nat) + (1 : Nat)), .any, .any, .any, AV.vsl 0 0 (List.length (List.map roE l)), AV.int IntKind.i64 (↑(List.length (List.map roE l)) : Int), AV.int IntKind.i64 ((↑p : Int) + (1 : Int)), .any, .any, .any, .any, .any, .any, .any, .any, .any, .any, .any, .any, .any, .any, .any, .any, .any, .any, .any, .any, .any, .any, .any, .any, .any, .any, .any, .any, .any, .any, .any] [some (Blk.mk false (73 : TypeId) 4 true (List.map roE l)), some (Blk.mk true 73 4 true (F (kpR (List.take (p + (1 : Nat)) l)))), some (Blk.mk true 73 4 true (F (rwR l (p + (1 : Nat)))))] = kqSt F l p' ∧ Nat.le p' (List.length l) ∧ List.length l + (1 : Nat) - p' < List.length l + (1 : Nat) - p) ∧ (((↑(p_1 - (0 : Nat)) : Int) == (0 : Int)) = false → inRange IntKind.i64 ((↑(p_1 - (0 : Nat)) : Int) - (1 : Int)) ∧ (↑(p_1 - (0 : Nat)) : Int) - (1 : Int) = (↑(p_1 - (1 : Nat)) : Int) ∧ p_1 - (1 : Nat) < p_1 - (0 : Nat) ∧ Blk.read Proofs.Try.prog (Blk.mk true (73 : TypeId) 4 true (F (rwR l p))) 3 ((0 : Nat) + (0 : Nat) + (p_1 - (1 : Nat))) ((0 : Nat) + (3 : Nat)) = some (AV.int IntKind.i64 (at' (knR l p) (p_1 - (1 : Nat))).2) ∧ (((at' (knR l p) (p_1 - (1 : Nat))).2 != (at' l p).2) = true → ((List.length (kpR (List.take p l)) + (1 : Nat)) * (32 : Nat) ≤ (140737488355328 : Nat) ∧ List.length (kpR (List.take p l)) + (1 : Nat) ≤ (9223372036854775807 : Nat) ∧ (0 : Nat) + (1 : Nat) ≤ List.length [AV.agg [AV.w64 (Ro.p (at' l p)).1, AV.w64 (Ro.p (at' l p)).2, AV.int IntKind.i64 (Ro.p (at' l p)).3, AV.int IntKind.i64 (at' l p).2]] ∧ List.length (kpR (List.take p l)) ≤ List.length (F (kpR (List.take p l)))) ∧ List.take (List.length (kpR (List.take p l))) (F (kpR (List.take p l))) ++ [AV.agg [AV.w64 (Ro.p (at' l p)).1, AV.w64 (Ro.p (at' l p)).2, AV.int IntKind.i64 (Ro.p (at' l p)).3, AV.int IntKind.i64 (at' l p).2]] = F (kpR (List.take (p + (1 : Nat)) l)) ∧ ((p_1 - (0 : Nat) + (1 : Nat)) * (32 : Nat) ≤ (140737488355328 : Nat) ∧ p_1 - (0 : Nat) + (1 : Nat) ≤ (9223372036854775807 : Nat) ∧ (0 : Nat) + (1 : Nat) ≤ List.length [AV.agg [AV.w64 (Ro.p (at' l p)).1, AV.w64 (Ro.p (at' l p)).2, AV.int IntKind.i64 (Ro.p (at' l p)).3, AV.int IntKind.i64 (at' l p).2]] ∧ p_1 - (0 : Nat) ≤ List.length (F (rwR l p))) ∧ List.take (p_1 - (0 : Nat)) (F (rwR l p)) ++ [AV.agg [AV.w64 (Ro.p (at' l p)).1, AV.w64 (Ro.p (at' l p)).2, AV.int IntKind.i64 (Ro.p (at' l p)).3, AV.int IntKind.i64 (at' l p).2]] = F (rwR l (p + (1 : Nat))) ∧ inRange IntKind.i64 ((↑p : Int) + (1 : Int)) ∧ ∃ (p' : Nat), St.mk [.any, .any, .any, AV.vsl ((0 : Nat) + (1 : Nat)) 0 (List.length (kpR (List.take p l)) + (1 : Nat)), AV.vsl ((0 : Nat) + (1 : Nat) + (1 : Nat)) 0 (p_1 - (0 : Nat) + (1 : Nat)), .any, .any, .any, AV.vsl 0 0 (List.length (List.map roE l)), AV.int IntKind.i64 (↑(List.length (List.map roE l)) : Int), AV.int IntKind.i64 ((↑p : Int) + (1 : Int)), .any, .any, .any, .any, .any, .any, .any, .any, .any, .any, .any, .any, .any, .any, .any, .any, .any, .any, .any, .any, .any, .any, .any, .any, .any, .any, .any, .any, .any, .any, .any] [some (Blk.mk false (73 : TypeId) 4 true (List.map roE l)), some (Blk.mk true 73 4 true (F (kpR (List.take (p + (1 : Nat)) l)))), some (Blk.mk true 73 4 true (F (rwR l (p + (1 : Nat)))))] = kqSt F l p' ∧ Nat.le p' (List.length l) ∧ List.length l + (1 : Nat) - p' < List.length l + (1 : Nat) - p) ∧ (((at' (knR l p) (p_1 - (1 : Nat))).2 != (at' l p).2) = false → inRange IntKind.i64 ((↑p : Int) + (1 : Int)) ∧ ∃ (p' : Nat), St.mk [.any, .any, .any, AV.vsl ((0 : Nat) + (1 : Nat)) 0 (List.length (kpR (List.take p l))), AV.vsl ((0 : Nat) + (1 : Nat) + (1 : Nat)) ((0 : Nat) + (0 : Nat)) (p_1 - (0 : Nat)), .any, .any, .any, AV.vsl 0 0 (List.length (List.map roE l)), AV.int IntKind.i64 (↑(List.length (List.map roE l)) : Int), AV.int IntKind.i64 ((↑p : Int) + (1 : Int)), .any, .any, .any, .any, .any, .any, .any, .any, .any, .any, .any, .any, .any, .any, .any, .any, .any, .any, .any, .any, .any, .any, .any, .any, .any, .any, .any, .any, .any, .any, .any] [some (Blk.mk false (73 : TypeId) 4 true (List.map roE l)), some (Blk.mk true (73 : TypeId) 4 true (F (kpR (List.take p l)))), some (Blk.mk true (73 : TypeId) 4 true (F (rwR l p)))] = kqSt F l p' ∧ Nat.le p' (List.length l) ∧ List.length l + (1 : Nat) - p' < List.length l + (1 : Nat) - p)))) ∧ (Decidable.decide ((↑p_1 : Int) > (0 : Int)) = false → (↑p_1 : Int) = (↑p_1 : Int) ∧ p_1 < List.length (knR l p) + (1 : Nat) ∧ (((↑(p_1 - (0 : Nat)) : Int) == (0 : Int)) = true → ((List.length (kpR (List.take p l)) + (1 : Nat)) * (32 : Nat) ≤ (140737488355328 : Nat) ∧ List.length (kpR (List.take p l)) + (1 : Nat) ≤ (9223372036854775807 : Nat) ∧ (0 : Nat) + (1 : Nat) ≤ List.length [AV.agg [AV.w64 (Ro.p (at' l p)).1, AV.w64 (Ro.p (at' l p)).2, AV.int IntKind.i64 (Ro.p (at' l p)).3, AV.int IntKind.i64 (at' l p).2]] ∧ List.length (kpR (List.take p l)) ≤ List.length (F (kpR (List.take p l)))) ∧ List.take (List.length (kpR (List.take p l))) (F (kpR (List.take p l))) ++ [AV.agg [AV.w64 (Ro.p (at' l p)).1, AV.w64 (Ro.p (at' l p)).2, AV.int IntKind.i64 (Ro.p (at' l p)).3, AV.int IntKind.i64 (at' l p).2]] = F (kpR (List.take (p + (1 : Nat)) l)) ∧ ((p_1 - (0 : Nat) + (1 : Nat)) * (32 : Nat) ≤ (140737488355328 : Nat) ∧ p_1 - (0 : Nat) + (1 : Nat) ≤ (9223372036854775807 : Nat) ∧ (0 : Nat) + (1 : Nat) ≤ List.length [AV.agg [AV.w64 (Ro.p (at' l p)).1, AV.w64 (Ro.p (at' l p)).2, AV.int IntKind.i64 (Ro.p (at' l p)).3, AV.int IntKind.i64 (at' l p).2]] ∧ p_1 - (0 : Nat) ≤ List.length (F (rwR l p))) ∧ List.take (p_1 - (0 : Nat)) (F (rwR l p)) ++ [AV.agg [AV.w64 (Ro.p (at' l p)).1, AV.w64 (Ro.p (at' l p)).2, AV.int IntKind.i64 (Ro.p (at' l p)).3, AV.int IntKind.i64 (at' l p).2]] = F (rwR l (p + (1 : Nat))) ∧ inRange IntKind.i64 ((↑p : Int) + (1 : Int)) ∧ ∃ (p' : Nat), St.mk [.any, .any, .any, AV.vsl ((0 : Nat) + (1 : Nat)) 0 (List.length (kpR (List.take p l)) + (1 : Nat)), AV.vsl ((0 : Nat) + (1 : Nat) + (1 : Nat)) 0 (p_1 - (0 : Nat) + (1 : Nat)), .any, .any, .any, AV.vsl 0 0 (List.length (List.map roE l)), AV.int IntKind.i64 (↑(List.length (List.map roE l)) : Int), AV.int IntKind.i64 ((↑p : Int) + (1 : Int)), .any, .any, .any, .any, .any, .any, .any, .any, .any, .any, .any, .any, .any, .any, .any, .any, .any, .any, .any, .any, .any, .any, .any, .any, .any, .any, .any, .any, .any, .any, .any] [some (Blk.mk false (73 : TypeId) 4 true (List.map roE l)), some (Blk.mk true 73 4 true (F (kpR (List.take (p + (1 : Nat)) l)))), some (Blk.mk true 73 4 true (F (rwR l (p + (1 : Nat)))))] = kqSt F l p' ∧ Nat.le p' (List.length l) ∧ List.length l + (1 : Nat) - p' < List.length l + (1 : Nat) - p) ∧ (((↑(p_1 - (0 : Nat)) : Int) == (0 : Int)) = false → inRange IntKind.i64 ((↑(p_1 - (0 : Nat)) : Int) - (1 : Int)) ∧ (↑(p_1 - (0 : Nat)) : Int) - (1 : Int) = (↑(p_1 - (1 : Nat)) : Int) ∧ p_1 - (1 : Nat) < p_1 - (0 : Nat) ∧ Blk.read Proofs.Try.prog (Blk.mk true (73 : TypeId) 4 true (F (rwR l p))) 3 ((0 : Nat) + (0 : Nat) + (p_1 - (1 : Nat))) ((0 : Nat) + (3 : Nat)) = some (AV.int IntKind.i64 (at' (knR l p) (p_1 - (1 : Nat))).2) ∧ (((at' (knR l p) (p_1 - (1 : Nat))).2 != (at' l p).2) = true → ((List.length (kpR (List.take p l)) + (1 : Nat)) * (32 : Nat) ≤ (140737488355328 : Nat) ∧ List.length (kpR (List.take p l)) + (1 : Nat) ≤ (9223372036854775807 : Nat) ∧ (0 : Nat) + (1 : Nat) ≤ List.length [AV.agg [AV.w64 (Ro.p (at' l p)).1, AV.w64 (Ro.p (at' l p)).2, AV.int IntKind.i64 (Ro.p (at' l p)).3, AV.int IntKind.i64 (at' l p).2]] ∧ List.length (kpR (List.take p l)) ≤ List.length (F (kpR (List.take p l)))) ∧ List.take (List.length (kpR (List.take p l))) (F (kpR (List.take p l))) ++ [AV.agg [AV.w64 (Ro.p (at' l p)).1, AV.w64 (Ro.p (at' l p)).2, AV.int IntKind.i64 (Ro.p (at' l p)).3, AV.int IntKind.i64 (at' l p).2]] = F (kpR (List.take (p + (1 : Nat)) l)) ∧ ((p_1 - (0 : Nat) + (1 : Nat)) * (32 : Nat) ≤ (140737488355328 : Nat) ∧ p_1 - (0 : Nat) + (1 : Nat) ≤ (9223372036854775807 : Nat) ∧ (0 : Nat) + (1 : Nat) ≤ List.length [AV.agg [AV.w64 (Ro.p (at' l p)).1, AV.w64 (Ro.p (at' l p)).2, AV.int IntKind.i64 (Ro.p (at' l p)).3, AV.int IntKind.i64 (at' l p).2]] ∧ p_1 - (0 : Nat) ≤ List.length (F (rwR l p))) ∧ List.take (p_1 - (0 : Nat)) (F (rwR l p)) ++ [AV.agg [AV.w64 (Ro.p (at' l p)).1, AV.w64 (Ro.p (at' l p)).2, AV.int IntKind.i64 (Ro.p (at' l p)).3, AV.int IntKind.i64 (at' l p).2]] = F (rwR l (p + (1 : Nat))) ∧ inRange IntKind.i64 ((↑p : Int) + (1 : Int)) ∧ ∃ (p' : Nat), St.mk [.any, .any, .any, AV.vsl ((0 : Nat) + (1 : Nat)) 0 (List.length (kpR (List.take p l)) + (1 : Nat)), AV.vsl ((0 : Nat) + (1 : Nat) + (1 : Nat)) 0 (p_1 - (0 : Nat) + (1 : Nat)), .any, .any, .any, AV.vsl 0 0 (List.length (List.map roE l)), AV.int IntKind.i64 (↑(List.length (List.map roE l)) : Int), AV.int IntKind.i64 ((↑p : Int) + (1 : Int)), .any, .any, .any, .any, .any, .any, .any, .any, .any, .any, .any, .any, .any, .any, .any, .any, .any, .any, .any, .any, .any, .any, .any, .any, .any, .any, .any, .any, .any, .any, .any] [some (Blk.mk false (73 : TypeId) 4 true (List.map roE l)), some (Blk.mk true 73 4 true (F (kpR (List.take (p + (1 : Nat)) l)))), some (Blk.mk true 73 4 true (F (rwR l (p + (1 : Nat)))))] = kqSt F l p' ∧ Nat.le p' (List.length l) ∧ List.length l + (1 : Nat) - p' < List.length l + (1 : Nat) - p) ∧ (((at' (knR l p) (p_1 - (1 : Nat))).2 != (at' l p).2) = false → inRange IntKind.i64 ((↑p : Int) + (1 : Int)) ∧ ∃ (p' : Nat), St.mk [.any, .any, .any, AV.vsl ((0 : Nat) + (1 : Nat)) 0 (List.length (kpR (List.take p l))), AV.vsl ((0 : Nat) + (1 : Nat) + (1 : Nat)) ((0 : Nat) + (0 : Nat)) (p_1 - (0 : Nat)), .any, .any, .any, AV.vsl 0 0 (List.length (List.map roE l)), AV.int IntKind.i64 (↑(List.length (List.map roE l)) : Int), AV.int IntKind.i64 ((↑p : Int) + (1 : Int)), .any, .any, .any, .any, .any, .any, .any, .any, .any, .any, .any, .any, .any, .any, .any, .any, .any, .any, .any, .any, .any, .any, .any, .any, .any, .any, .any, .any, .any, .any, .any] [some (Blk.mk false (73 : TypeId) 4 true (List.map roE l)), some (Blk.mk true (73 : TypeId) 4 true (F (kpR (List.take p l)))), some (Blk.mk true (73 : TypeId) 4 true (F (rwR l p)))] = kqSt F l p' ∧ Nat.le p' (List.length l) ∧ List.length l + (1 : Nat) - p' < List.length l + (1 : Nat) - p)))) ∧ (Decidable.decide ((↑p : Int) < (↑(List.length (List.map roE l)) : Int)) = false → List.length (kpR (List.take p l)) = List.length es ∧ some (Blk.mk true (73 : TypeId) 4 true (F (kpR (List.take p l)))) = some (Blk.mk true (73 : TypeId) 4 true es))) := by kernel_rfl

theorem gkeep9Cs_ok : ∀ e ∈ gkeep9Cs, SpecOK Try.prog e.1 e.2 := by
  intro e he
  simp only [gkeep9Cs, List.mem_cons, List.not_mem_nil, or_false] at he
  rcases he with rfl
  · exact pcovers_ok

theorem gkeep9_ok : SpecOK Try.prog 44 (genSpec [pRo] gkeep9F) := by
  refine genSpec_ok (run_ok (l := gkeep9Cs) gkeep9Cs_ok mixed noNG) fun l R hF => ?_
  unfold gkeep9F at hF
  split at hF
  · rename_i r_l
    obtain ⟨hr_l, hl, hF⟩ := hF
    generalize deR r_l = l at hr_l hl hF
    subst hr_l
    refine ⟨_, hF, trivial, (kqH (List.map roE) l), ?_⟩
    show run gkeep9Cs Try.prog _ [.vsl 0 0 (l.map roE).length] [some ⟨false, (pRo.getD (0, 0)).1, (pRo.getD (0, 0)).2, true, (l.map roE)⟩] _ _
    rw [gkeep9_run]
    have T := tbR_iff.1 hl
    have hm := T.most
    refine ⟨⟨rfl, Nat.zero_le _⟩, ?_⟩
    intro p hp0
    have hp0 : p ≤ l.length := hp0
    refine ⟨fun hlt => ?_, fun hge => ?_⟩
    · have hp : p < l.length := by simp only [decide_eq_true_eq, List.length_map] at hlt; omega
      have B : 0 ≤ (p : Int) ∧ (p : Int) < ((l.map roE).length : Int) := by rw [List.length_map]; omega
      have hkt := kpT_le l p
      have hkn := kn_le l p
      have hrw := rw_le T hp0
      have hrm : ((rwR l p).map roE).length = (rwR l p).length := List.length_map _
      have i1 : inRange .i64 ((p : Int) + 1) := inR (by omega) (by omega)
      -- a route that is kept
      have yes : ∀ k, (knR l p).take k = cvL (kpR (l.take p)) (at' l p).p → k ≤ (knR l p).length → saysR (cvrR (kpR (l.take p)) (at' l p).p) (at' l p) = true →
          (((kpR (l.take p)).length + 1) * 32 ≤ 140737488355328 ∧ (kpR (l.take p)).length + 1 ≤ 9223372036854775807 ∧ 0 + 1 ≤ List.length [roE (at' l p)] ∧ (kpR (l.take p)).length ≤ ((kpR (l.take p)).map roE).length) ∧ List.take (kpR (l.take p)).length ((kpR (l.take p)).map roE) ++ [roE (at' l p)] = (kpR (l.take (p + 1))).map roE ∧
          ((k + 1) * 32 ≤ 140737488355328 ∧ k + 1 ≤ 9223372036854775807 ∧ 0 + 1 ≤ List.length [roE (at' l p)] ∧ k ≤ ((rwR l p).map roE).length) ∧ List.take k ((rwR l p).map roE) ++ [roE (at' l p)] = (rwR l (p + 1)).map roE ∧ inRange .i64 ((p : Int) + 1) ∧
          ∃ p', (⟨[.any, .any, .any, .vsl 1 0 ((kpR (l.take p)).length + 1), .vsl 2 0 (k + 1), .any, .any, .any, .vsl 0 0 (l.map roE).length, .int .i64 (l.map roE).length, .int .i64 ((p : Int) + 1), .any, .any, .any, .any, .any, .any, .any, .any, .any, .any, .any, .any, .any, .any, .any, .any, .any, .any, .any, .any, .any, .any, .any, .any, .any, .any, .any, .any, .any, .any, .any], [some ⟨false, 73, 4, true, l.map roE⟩, some ⟨true, 73, 4, true, (kpR (l.take (p + 1))).map roE⟩, some ⟨true, 73, 4, true, (rwR l (p + 1)).map roE⟩]⟩ : St) = kqSt (List.map roE) l p' ∧ Nat.le p' l.length ∧ l.length + 1 - p' < l.length + 1 - p := fun k hk hkl hs => by
        have e1 : kpR (l.take (p + 1)) = kpR (l.take p) ++ [at' l p] := by rw [kpT_next hp, if_pos hs]
        have e2 : knR l (p + 1) = (knR l p).take k ++ [at' l p] := by rw [kn_next T hp, if_pos hs, hk]
        have e3 : rwR l (p + 1) = knR l (p + 1) := by
          show (if saysR (cvrR (kpR (l.take p)) (at' l p).p) (at' l p) = true then knR l (p + 1) else rwR l p) = _
          rw [if_pos hs]
        have l1 : (kpR (l.take (p + 1))).length = (kpR (l.take p)).length + 1 := by rw [e1, List.length_append]; rfl
        have l2 : (knR l (p + 1)).length = k + 1 := by rw [e2, List.length_append, List.length_take, List.length_cons, List.length_nil]; omega
        refine ⟨⟨by omega, by omega, Nat.le_refl _, by rw [List.length_map]; exact Nat.le_refl _⟩, ?_, ⟨by omega, by omega, Nat.le_refl _, by omega⟩, ?_, i1, p + 1, ?_, hp, by omega⟩
        · rw [e1, List.map_append, ← List.map_take, List.take_length]; rfl
        · rw [e3, e2, List.map_append, ← List.map_take, rw_first T hp0 hkl]; rfl
        · unfold kqSt
          rw [l1, l2]; rfl
      -- one that is not
      have no : ∀ k, (knR l p).take k = cvL (kpR (l.take p)) (at' l p).p → k ≤ (knR l p).length → saysR (cvrR (kpR (l.take p)) (at' l p).p) (at' l p) = false →
          inRange .i64 ((p : Int) + 1) ∧
          ∃ p', (⟨[.any, .any, .any, .vsl 1 0 (kpR (l.take p)).length, .vsl 2 0 k, .any, .any, .any, .vsl 0 0 (l.map roE).length, .int .i64 (l.map roE).length, .int .i64 ((p : Int) + 1), .any, .any, .any, .any, .any, .any, .any, .any, .any, .any, .any, .any, .any, .any, .any, .any, .any, .any, .any, .any, .any, .any, .any, .any, .any, .any, .any, .any, .any, .any, .any], [some ⟨false, 73, 4, true, l.map roE⟩, some ⟨true, 73, 4, true, (kpR (l.take p)).map roE⟩, some ⟨true, 73, 4, true, (rwR l p).map roE⟩]⟩ : St) = kqSt (List.map roE) l p' ∧ Nat.le p' l.length ∧ l.length + 1 - p' < l.length + 1 - p := fun k hk hkl hs => by
        have hs : ¬ saysR (cvrR (kpR (l.take p)) (at' l p).p) (at' l p) = true := by rw [hs]; simp
        have e1 : kpR (l.take (p + 1)) = kpR (l.take p) := by rw [kpT_next hp, if_neg hs]
        have e2 : knR l (p + 1) = (knR l p).take k := by rw [kn_next T hp, if_neg hs, hk]
        have e3 : rwR l (p + 1) = rwR l p := by
          show (if saysR (cvrR (kpR (l.take p)) (at' l p).p) (at' l p) = true then knR l (p + 1) else rwR l p) = _
          rw [if_neg hs]
        have l2 : (knR l (p + 1)).length = k := by rw [e2, List.length_take]; omega
        refine ⟨i1, p + 1, ?_, hp, by omega⟩
        unfold kqSt
        rw [e1, e3, l2]; rfl
      refine ⟨B, read_rows B.1 B.2 (ro_whole _), ⟨rfl, Nat.le_refl _, fun t h1 h2 => by omega⟩, ?_⟩
      rintro k ⟨k1, k2⟩
      have trim := fun h2 => kn_trim T hp k1 k2 h2
      refine ⟨fun h0 => ?_, fun h0 => ?_⟩
      · have h0 : 0 < k := by have := of_decide_eq_true h0; omega
        have i2 : inRange .i64 ((k : Int) - 1) := inR (by omega) (by omega)
        have e1 : (k : Int) - 1 = ((k - 1 : Nat) : Int) := by omega
        have er := rw_at T hp0 (show k - 1 < (knR l p).length by omega)
        refine ⟨i2, e1, by omega, ?_, fun hc => ?_, fun hc => ?_⟩
        · rw [← er]; exact read_rows (k := ((k - 1 : Nat) : Int)) (by omega) (by omega) (ro_whole _)
        · have hc : (!cvP (at' (knR l p) (k - 1)).p (at' l p).p) = true := hc
          have hc : cvP (at' (knR l p) (k - 1)).p (at' l p).p = false := by simpa using hc
          refine ⟨i2, k - 1, ?_, ⟨by omega, fun t h1 h2 => ?_⟩, by omega⟩
          · unfold kqSt2
            rw [← e1]; rfl
          · by_cases e : t = k - 1
            · rw [e]; exact hc
            · exact k2 t (by omega) h2
        · have hc : (!cvP (at' (knR l p) (k - 1)).p (at' l p).p) = false := hc
          have hk := trim fun _ => by simpa using hc
          have hs := kn_says T hp k1 hk
          rw [decide_eq_false (show ¬ k = 0 by omega), Bool.false_or] at hs
          refine ⟨rfl, by omega, fun h => ?_, fun _ => ⟨i2, e1, by omega, ?_, fun ha => yes k hk k1 (hs.trans ha), fun ha => no k hk k1 (hs.trans ha)⟩⟩
          · have h : ((k : Int) == 0) = true := h
            rw [beq_iff_eq] at h; omega
          · rw [← er]; exact read_rows (k := ((k - 1 : Nat) : Int)) (by omega) (by omega) (ro_act _)
      · have h0 : k = 0 := by have := of_decide_eq_false h0; omega
        subst h0
        have hk := trim fun h => absurd h (Nat.lt_irrefl _)
        refine ⟨rfl, by omega, fun _ => yes 0 hk k1 (kn_says T hp k1 hk), fun h => ?_⟩
        cases h
    · have hp : p = l.length := by simp only [decide_eq_false_iff_not, List.length_map] at hge; omega
      subst hp
      rw [kpT_all]
      exact ⟨(List.length_map _).symm, rfl⟩
  · exact hF.elim



end Go.Proofs.Ytnjbgbdcbejciaa.L1
end

