/-
  Layer 6: where a prefix is in a table, or would be: plain mathematics.
-/
import Derived.Test.YtffcpblbdfjagaaL6V
import Derived.Test.YtffcpblbdfjagaaL6D
namespace Go.Sx.M
open Go.Proofs.Ytffcpblbdfjagaa.L1

/-- How many of a table stand ahead of a prefix's place. -/
def plN (l : List Ro) (p : Pf) : Nat := (l.takeWhile fun x => decide (cpP x.p p < 0)).length

/-- It is that place. -/
def PlN (l : List Ro) (p : Pf) (i : Nat) : Prop := i ≤ l.length ∧ (∀ t, t < i → cpP (at' l t).p p < 0) ∧ (i < l.length → ¬ cpP (at' l i).p p < 0)

theorem at_cons_succ (y : Ro) (l : List Ro) (i : Nat) : at' (y :: l) (i + 1) = at' l i := rfl

theorem plN_is {p : Pf} : ∀ {l : List Ro} {i : Nat}, PlN l p i → plN l p = i
  | [], i, ⟨h, _, _⟩ => by
    have : i = 0 := by simpa using h
    subst this; rfl
  | y :: l, 0, ⟨_, _, h⟩ => by
    have h0 : ¬ cpP y.p p < 0 := h (by simp)
    unfold plN
    rw [List.takeWhile_cons_of_neg (by simpa using h0)]
    rfl
  | y :: l, i + 1, ⟨h1, h2, h3⟩ => by
    have h0 : cpP y.p p < 0 := h2 0 (by omega)
    have ih : plN l p = i := plN_is ⟨by simpa using h1, fun t ht => h2 (t + 1) (by omega), fun hi => h3 (by simpa using hi)⟩
    unfold plN at ih ⊢
    rw [List.takeWhile_cons_of_pos (by simpa using h0), List.length_cons, ih]

theorem PlN_plN (p : Pf) : ∀ l : List Ro, PlN l p (plN l p)
  | [] => ⟨Nat.le_refl _, fun t ht => absurd ht (Nat.not_lt_zero _), fun h => absurd h (Nat.not_lt_zero _)⟩
  | y :: l => by
    have ih := PlN_plN p l
    by_cases h0 : cpP y.p p < 0
    · have e : plN (y :: l) p = plN l p + 1 := by
        unfold plN; rw [List.takeWhile_cons_of_pos (by simpa using h0), List.length_cons]
      rw [e]
      obtain ⟨h1, h2, h3⟩ := ih
      refine ⟨by simpa using h1, fun t ht => ?_, fun hi => h3 (by simpa using hi)⟩
      cases t with
      | zero => exact h0
      | succ t => exact h2 t (by omega)
    · have e : plN (y :: l) p = 0 := by
        unfold plN; rw [List.takeWhile_cons_of_neg (by simpa using h0)]; rfl
      rw [e]
      exact ⟨Nat.zero_le _, fun t ht => absurd ht (Nat.not_lt_zero _), fun _ => h0⟩

theorem lt_down {w : Int} {l : List Ro} (h : TB w l) {p : Pf} {s t : Nat} (hst : s ≤ t) (ht : t < l.length) (hc : cpP (at' l t).p p < 0) : cpP (at' l s).p p < 0 := by
  rcases Nat.lt_or_eq_of_le hst with h' | rfl
  · exact cpP_trans (h.at h' ht) hc
  · exact hc

theorem ge_up {w : Int} {l : List Ro} (h : TB w l) {p : Pf} {s t : Nat} (hst : s ≤ t) (ht : t < l.length) (hc : ¬ cpP (at' l s).p p < 0) : ¬ cpP (at' l t).p p < 0 := fun h' => hc (lt_down h hst ht h')

/-- The route at a prefix's place is its own, or it has none. -/
theorem fd_place {w : Int} {l : List Ro} (h : TB w l) {p : Pf} {i : Nat} (hp : PlN l p i) : (fdR l p = none ∧ ∀ x ∈ l, x.p ≠ p) ∧ (i < l.length → cpP (at' l i).p p ≠ 0) ∨ i < l.length ∧ cpP (at' l i).p p = 0 ∧ (at' l i).p = p ∧ fdR l p = some (at' l i) := by
  obtain ⟨h1, h2, h3⟩ := hp
  by_cases hc : i < l.length ∧ cpP (at' l i).p p = 0
  · have e := cpP_zero.1 hc.2
    refine .inr ⟨hc.1, hc.2, e, ?_⟩
    have := fdR_tb h (at_mem hc.1)
    rw [e] at this
    exact this
  · have hne : ∀ x ∈ l, x.p ≠ p := by
      intro x hx
      obtain ⟨j, hj, rfl⟩ := mem_at hx
      intro e
      rcases Nat.lt_trichotomy j i with h' | rfl | h'
      · have := h2 j h'; rw [e, cpP_self] at this; omega
      · exact hc ⟨hj, by rw [e, cpP_self]⟩
      · have a := h.at h' hj
        have b := h3 (by omega)
        rw [e] at a
        exact b a
    refine .inl ⟨⟨?_, hne⟩, fun hi hz => hc ⟨hi, hz⟩⟩
    rcases fdR_cases l p with h' | ⟨x, hx, e, _⟩
    · exact h'.1
    · exact absurd e (hne x hx)

theorem fd_some {w : Int} {l : List Ro} (h : TB w l) {p : Pf} (hs : (fdR l p).isSome = true) : plN l p < l.length ∧ fdR l p = some (at' l (plN l p)) ∧ (at' l (plN l p)).p = p := by
  rcases fd_place h (PlN_plN p l) with ⟨⟨h1, _⟩, _⟩ | ⟨h1, _, h2, h3⟩
  · rw [h1] at hs; cases hs
  · exact ⟨h1, h3, h2⟩

theorem mem_drop {l : List Ro} {n : Nat} {x : Ro} (hx : x ∈ l.drop n) : ∃ j, n ≤ j ∧ j < l.length ∧ at' l j = x := by
  obtain ⟨k, hk, rfl⟩ := List.mem_iff_getElem.1 hx
  rw [List.length_drop] at hk
  refine ⟨n + k, by omega, by omega, ?_⟩
  rw [List.getElem_drop]
  have := at_get (show n + k < l.length by omega)
  rw [List.getElem?_eq_getElem (by omega)] at this
  exact (Option.some_inj.1 this).symm

theorem at_mem_take {l : List Ro} {n j : Nat} (hj : j < n) (hl : j < l.length) : at' l j ∈ l.take n := by
  have : (l.take n)[j]? = some (at' l j) := by rw [List.getElem?_take, if_pos hj, at_get hl]
  exact List.mem_of_getElem? this

theorem at_mem_drop {l : List Ro} {n j : Nat} (hj : n ≤ j) (hl : j < l.length) : at' l j ∈ l.drop n := by
  have : (l.drop n)[j - n]? = some (at' l j) := by rw [List.getElem?_drop, show n + (j - n) = j by omega, at_get hl]
  exact List.mem_of_getElem? this

/-- What is behind a prefix's place. -/
def bhN (l : List Ro) (p : Pf) : Nat := if (fdR l p).isSome then plN l p + 1 else plN l p

theorem mem_around {w : Int} {l : List Ro} (h : TB w l) (p : Pf) : (∀ x ∈ l.take (plN l p), cpP x.p p < 0) ∧ (∀ x ∈ l.drop (bhN l p), cpP p x.p < 0) ∧ ∀ x, (x ∈ l ∧ x.p ≠ p) ↔ (x ∈ l.take (plN l p) ∨ x ∈ l.drop (bhN l p)) := by
  have hp := PlN_plN p l
  obtain ⟨p1, p2, p3⟩ := hp
  have ht : ∀ x ∈ l.take (plN l p), cpP x.p p < 0 := fun x hx => by
    obtain ⟨j, hj, hl, rfl⟩ := mem_take hx
    exact p2 j hj
  have hd : ∀ x ∈ l.drop (bhN l p), cpP p x.p < 0 := fun x hx => by
    obtain ⟨j, hj, hl, rfl⟩ := mem_drop hx
    rcases fd_place h (PlN_plN p l) with ⟨⟨h1, h2⟩, _⟩ | ⟨h1, _, h2, h3⟩
    · have e : bhN l p = plN l p := by unfold bhN; rw [h1]; rfl
      rw [e] at hj
      have a := ge_up h hj hl (p3 (by omega))
      have b : cpP (at' l j).p p ≠ 0 := fun e => h2 _ (at_mem hl) (cpP_zero.1 e)
      exact cpP_gt.1 (by omega)
    · have e : bhN l p = plN l p + 1 := by unfold bhN; rw [h3]; rfl
      rw [e] at hj
      have := h.at (show plN l p < j by omega) hl
      rw [h2] at this
      exact this
  refine ⟨ht, hd, fun x => ⟨fun ⟨hx, hne⟩ => ?_, fun hx => ?_⟩⟩
  · obtain ⟨j, hj, rfl⟩ := mem_at hx
    by_cases hlt : j < plN l p
    · exact .inl (at_mem_take hlt hj)
    · refine .inr (at_mem_drop ?_ hj)
      unfold bhN
      split
      · rename_i hs
        obtain ⟨_, _, e⟩ := fd_some h hs
        rcases Nat.lt_or_eq_of_le (Nat.le_of_not_lt hlt) with h' | h'
        · omega
        · rw [← h'] at hne; exact absurd e hne
      · omega
  · rcases hx with hx | hx
    · refine ⟨List.mem_of_mem_take hx, fun e => ?_⟩
      have := ht x hx
      rw [e, cpP_self] at this; omega
    · refine ⟨List.mem_of_mem_drop hx, fun e => ?_⟩
      have := hd x hx
      rw [e, cpP_self] at this; omega

theorem drR_place {w : Int} {l : List Ro} (h : TB w l) (p : Pf) : drR l p = l.take (plN l p) ++ l.drop (bhN l p) := by
  obtain ⟨h1, h2, h3⟩ := mem_around h p
  refine tb_ext (drR_tb h p).sorted ?_ fun x => ?_
  · rw [List.pairwise_append]
    exact ⟨h.sorted.sublist (List.take_sublist _ _), h.sorted.sublist (List.drop_sublist _ _), fun a ha b hb => cpP_trans (h1 a ha) (h2 b hb)⟩
  · rw [mem_drR, List.mem_append]
    exact h3 x

theorem ptR_place {w : Int} {l : List Ro} (h : TB w l) (r : Ro) : ptR l r = l.take (plN l r.p) ++ [r] ++ l.drop (bhN l r.p) := by
  obtain ⟨h1, h2, h3⟩ := mem_around h r.p
  refine tb_ext (inR_sorted (drR_tb h _).sorted fun x hx => (mem_drR.1 hx).2) ?_ fun x => ?_
  · rw [List.pairwise_append, List.pairwise_append]
    refine ⟨⟨h.sorted.sublist (List.take_sublist _ _), List.pairwise_singleton _ _, fun a ha b hb => ?_⟩, h.sorted.sublist (List.drop_sublist _ _), fun a ha b hb => ?_⟩
    · rw [List.mem_singleton.1 hb]; exact h1 a ha
    · rcases List.mem_append.1 ha with ha | ha
      · exact cpP_trans (h1 a ha) (h2 b hb)
      · rw [List.mem_singleton.1 ha]; exact h2 b hb
  · have := h3 x
    rw [mem_ptR, List.mem_append, List.mem_append, List.mem_singleton]
    constructor
    · rintro (h | h)
      · exact .inl (.inr h)
      · rcases this.1 h with h | h
        · exact .inl (.inl h)
        · exact .inr h
    · rintro ((h | h) | h)
      · exact .inr (this.2 (.inl h))
      · exact .inl h
      · exact .inr (this.2 (.inr h))

/-- Those that are open ahead of a step. -/
def skR (l : List Ro) (i : Nat) : List Pf := if i = 0 then [] else (opR l (i - 1)).map (·.p)

theorem opR_len_pos (l : List Ro) (i : Nat) : 0 < (opR l i).length := by unfold opR; rw [List.length_append]; simp

theorem opR_le {w : Int} {l : List Ro} (h : TB w l) {i : Nat} (hi : i < l.length) : (opR l i).length ≤ i + 1 := by
  unfold opR
  rw [cvL_take h hi, List.length_append]
  have : (cvL (l.take i) (at' l i).p).length ≤ (l.take i).length := List.length_filter_le _ _
  rw [List.length_take] at this
  simp only [List.length_cons, List.length_nil]
  omega

theorem skR_le {w : Int} {l : List Ro} (h : TB w l) {i : Nat} (hi : i ≤ l.length) : (skR l i).length ≤ i := by
  unfold skR
  split
  · simp
  · rw [List.length_map]
    have := opR_le h (show i - 1 < l.length by omega)
    omega

/-- A table's prefix covers another one's, that is not it. -/
theorem cv_ov {w : Int} {l : List Ro} (h : TB w l) {i : Nat} (hi : i < l.length) {q : Pf} (hq : ∃ j, j < i ∧ (at' l j).p = q) : cvP q (at' l i).p = ovP q (at' l i).p := by
  obtain ⟨j, hj, rfl⟩ := hq
  have hne : (at' l i).p ≠ (at' l j).p := fun e => by
    have := h.at hj hi
    rw [e, cpP_self] at this; omega
  unfold ovP
  rw [decide_eq_false hne]
  simp

theorem skR_mem {w : Int} {l : List Ro} (h : TB w l) {i : Nat} (hi : i < l.length) {q : Pf} (hq : q ∈ skR l i) : ∃ j, j < i ∧ (at' l j).p = q := by
  unfold skR at hq
  split at hq
  · cases hq
  · obtain ⟨y, hy, rfl⟩ := List.mem_map.1 hq
    unfold opR at hy
    rcases List.mem_append.1 hy with hy | hy
    · rw [cvL_take h (show i - 1 < l.length by omega)] at hy
      obtain ⟨j, hj, _, rfl⟩ := mem_take (mem_cvL.1 hy).1
      exact ⟨j, by omega, rfl⟩
    · rw [List.mem_singleton.1 hy]
      exact ⟨i - 1, by omega, rfl⟩

/-- A filter whose hits come first. -/
theorem filter_take {T : Type} [Inhabited T] {f : T → Bool} : ∀ {m : List T} {k : Nat}, k ≤ m.length → (∀ t, t < k → f (at' m t) = true) → (∀ t, k ≤ t → t < m.length → f (at' m t) = false) → m.filter f = m.take k
  | [], k, h, _, _ => by simp
  | y :: m, 0, _, _, h3 => by
    rw [List.take_zero, List.filter_eq_nil_iff]
    intro x hx
    obtain ⟨j, hj, rfl⟩ := mem_at hx
    rw [h3 j (Nat.zero_le _) hj]; simp
  | y :: m, k + 1, h1, h2, h3 => by
    have h0 : f y = true := h2 0 (by omega)
    rw [List.filter_cons_of_pos h0, List.take_succ_cons, filter_take (by simpa using h1) (fun t ht => h2 (t + 1) (by omega)) fun t ht hl => h3 (t + 1) (by omega) (by simpa using hl)]

/-- Behind the steps back, with the step's own. -/
theorem skR_step {w : Int} {l : List Ro} (h : TB w l) {i : Nat} (hi : i < l.length) {k : Nat} (hk : k ≤ (skR l i).length) (h1 : ∀ t, k ≤ t → t < (skR l i).length → cvP (at' (skR l i) t) (at' l i).p = false) (h2 : 0 < k → cvP (at' (skR l i) (k - 1)) (at' l i).p = true) :
    (skR l i).take k ++ [(at' l i).p] = skR l (i + 1) := by
  have e1 : skR l (i + 1) = (opR l i).map (·.p) := by unfold skR; rw [if_neg (by omega), Nat.add_sub_cancel]
  rw [e1]
  rcases Nat.eq_zero_or_pos i with rfl | h0
  · have : skR l 0 = [] := rfl
    rw [this, List.take_nil, opR_zero h hi]
    rfl
  · obtain ⟨n, rfl⟩ : ∃ n, i = n + 1 := ⟨i - 1, by omega⟩
    have e2 : skR l (n + 1) = (opR l n).map (·.p) := by unfold skR; rw [if_neg (by omega), Nat.add_sub_cancel]
    have hq : ∀ t, t < (opR l n).length → cvP (at' (skR l (n + 1)) t) (at' l (n + 1)).p = ovP (at' (opR l n) t).p (at' l (n + 1)).p := fun t ht => by
      have hm : at' (skR l (n + 1)) t = (at' (opR l n) t).p := by
        rw [e2]
        have a : ((opR l n).map (·.p))[t]? = some (at' ((opR l n).map (·.p)) t) := at_get (by rw [List.length_map]; exact ht)
        rw [List.getElem?_map, at_get ht] at a
        exact (Option.some_inj.1 a).symm
      rw [cv_ov h hi (skR_mem h hi (at_mem (by rw [e2, List.length_map]; exact ht))), hm]
    have hlen : (skR l (n + 1)).length = (opR l n).length := by rw [e2, List.length_map]
    rw [hlen] at hk h1
    rw [opR_step h hi, e2, List.map_append, ← List.map_take]
    congr 2
    refine (filter_take hk (fun t ht => ?_) fun t ht hl => ?_).symm
    · have hl : ovP (at' (opR l n) (k - 1)).p (at' l (n + 1)).p = true := by rw [← hq _ (by omega)]; exact h2 (by omega)
      rcases Nat.lt_or_eq_of_le (show t ≤ k - 1 by omega) with h' | rfl
      · exact opR_prefix h hi h' (by omega) hl
      · exact hl
    · rw [← hq _ hl]; exact h1 t ht hl

end Go.Sx.M
