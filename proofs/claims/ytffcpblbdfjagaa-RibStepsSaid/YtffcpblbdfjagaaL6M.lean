/-
  Layer 6: routes, and rows of routes: plain mathematics over the contracts' own terms.
-/
import Derived.Test.YtffcpblbdfjagaaL2M
import Derived.Test.YtffcpblbdfjagaaM11
namespace Go.Sx.M
open Go.Proofs.Ytffcpblbdfjagaa.L1

/-- A prefix. -/
structure Pf where
  a : BitVec 64
  b : BitVec 64
  len : Int
  deriving DecidableEq, Inhabited

/-- A route. -/
structure Ro where
  p : Pf
  act : Int
  deriving DecidableEq, Inhabited

def mtP (p : Pf) (c d : BitVec 64) : Bool := matchB p.a p.b p.len c d
def cvP (p q : Pf) : Bool := decide (p.len ≤ q.len) && mtP p q.a q.b
def cpP (p q : Pf) : Int := cmpP p.a p.b p.len q.a q.b q.len
def riP (w : Int) (p : Pf) : Bool := rightB w p.a p.b p.len
def riR (w : Int) (r : Ro) : Bool := riP w r.p && (decide (r.act ≥ 1) && decide (r.act ≤ 255))

theorem cpP_lt {p q : Pf} : cpP p q < 0 ↔ V p.a p.b < V q.a q.b ∨ (V p.a p.b = V q.a q.b ∧ p.len < q.len) := by
  unfold cpP cmpP orI cmpV cmpI
  split <;> split <;> (try split) <;> (try split) <;> simp_all <;> omega

theorem cpP_zero {p q : Pf} : cpP p q = 0 ↔ p = q := by
  unfold cpP
  rw [cmpP_zero]
  cases p; cases q; simp

theorem cpP_gt {p q : Pf} : cpP p q > 0 ↔ cpP q p < 0 := by
  rw [cpP_lt]
  unfold cpP cmpP orI cmpV cmpI
  split <;> split <;> (try split) <;> (try split) <;> simp_all <;> omega

theorem cpP_trans {p q r : Pf} (h1 : cpP p q < 0) (h2 : cpP q r < 0) : cpP p r < 0 := by
  rw [cpP_lt] at *
  omega

theorem cpP_self (p : Pf) : cpP p p = 0 := cpP_zero.2 rfl

/-- What is known of a prefix that may be. -/
theorem riP_iff {w : Int} {p : Pf} : riP w p = true ↔ (w = 32 ∨ w = 128) ∧ 0 ≤ p.len ∧ p.len ≤ w ∧ ∀ i : Nat, i < 128 → p.len ≤ (i : Int) → bitAt p.a p.b i = false := right_iff

theorem mtP_iff {p : Pf} {c d : BitVec 64} : mtP p c d = true ↔ ∀ i : Nat, i < 128 → (i : Int) < p.len → bitAt p.a p.b i = bitAt c d i := match_iff

theorem cvP_iff {p q : Pf} : cvP p q = true ↔ p.len ≤ q.len ∧ ∀ i : Nat, i < 128 → (i : Int) < p.len → bitAt p.a p.b i = bitAt q.a q.b i := by
  unfold cvP
  rw [Bool.and_eq_true, decide_eq_true_eq, mtP_iff]

/-- Two that may be, of one length, that match one address, are one. -/
theorem riP_eq {w w' : Int} {p q : Pf} {c d : BitVec 64} (hp : riP w p = true) (hq : riP w' q = true) (hl : p.len = q.len) (h1 : mtP p c d = true) (h2 : mtP q c d = true) : p = q := by
  obtain ⟨_, _, _, p3⟩ := riP_iff.1 hp
  obtain ⟨_, _, _, q3⟩ := riP_iff.1 hq
  rw [mtP_iff] at h1 h2
  have : p.a = q.a ∧ p.b = q.b := bitAt_eq fun i hi => by
    by_cases h : (i : Int) < p.len
    · rw [h1 i hi h, h2 i hi (by omega)]
    · rw [p3 i hi (by omega), q3 i hi (by omega)]
  cases p; cases q; simp_all

/-- A table. -/
structure TB (w : Int) (l : List Ro) : Prop where
  fam : w = 32 ∨ w = 128
  most : l.length ≤ 256
  right : ∀ x ∈ l, riR w x = true
  sorted : l.Pairwise fun x y => cpP x.p y.p < 0

def tbR (w : Int) (l : List Ro) : Bool := decide ((w = 32 ∨ w = 128) ∧ l.length ≤ 256 ∧ (∀ i, i < l.length → riR w (at' l i) = true) ∧ ∀ i, i < l.length → 0 < i → cpP (at' l (i - 1)).p (at' l i).p < 0)

theorem tbR_iff {w : Int} {l : List Ro} : tbR w l = true ↔ TB w l := by
  unfold tbR
  rw [decide_eq_true_eq]
  constructor
  · rintro ⟨h1, h2, h3, h4⟩
    refine ⟨h1, h2, fun x hx => ?_, ?_⟩
    · obtain ⟨k, hk, rfl⟩ := mem_at hx
      exact h3 k hk
    · have key : ∀ k, k < l.length → ∀ i, i < k → cpP (at' l i).p (at' l k).p < 0 := by
        intro k
        induction k with
        | zero => intro _ i hi; omega
        | succ k ih =>
          intro hk i hi
          have h5 := h4 (k + 1) hk (by omega)
          rw [Nat.add_sub_cancel] at h5
          rcases Nat.lt_or_eq_of_le (Nat.le_of_lt_succ hi) with h | rfl
          · exact cpP_trans (ih (by omega) i h) h5
          · exact h5
      refine List.pairwise_iff_getElem.2 fun i j hi hj hij => ?_
      have e1 : l[i] = at' l i := by have := at_get hi; rw [List.getElem?_eq_getElem hi] at this; exact Option.some_inj.1 this
      have e2 : l[j] = at' l j := by have := at_get hj; rw [List.getElem?_eq_getElem hj] at this; exact Option.some_inj.1 this
      rw [e1, e2]
      exact key j hj i hij
  · intro h
    refine ⟨h.fam, h.most, fun i hi => h.right _ (at_mem hi), fun i hi h0 => ?_⟩
    have := List.pairwise_iff_getElem.1 h.sorted (i - 1) i (by omega) hi (by omega)
    have h' : i - 1 < l.length := by omega
    have e1 : l[i - 1] = at' l (i - 1) := by have := at_get h'; rw [List.getElem?_eq_getElem h'] at this; exact Option.some_inj.1 this
    have e2 : l[i] = at' l i := by have := at_get hi; rw [List.getElem?_eq_getElem hi] at this; exact Option.some_inj.1 this
    rw [e1, e2] at this
    exact this

theorem TB.rip {w : Int} {l : List Ro} (h : TB w l) {x : Ro} (hx : x ∈ l) : riP w x.p = true := by
  have := h.right x hx
  unfold riR at this
  rw [Bool.and_eq_true] at this
  exact this.1

theorem TB.sub {w : Int} {l m : List Ro} (h : TB w l) (hs : m.Sublist l) : TB w m :=
  ⟨h.fam, Nat.le_trans hs.length_le h.most, fun x hx => h.right x (hs.subset hx), h.sorted.sublist hs⟩

/-- Of a table each prefix has one route. -/
theorem TB.one {w : Int} {l : List Ro} (h : TB w l) {x y : Ro} (hx : x ∈ l) (hy : y ∈ l) (hp : x.p = y.p) : x = y := by
  have := h.sorted
  induction l with
  | nil => cases hx
  | cons z l ih =>
    obtain ⟨h1, h2⟩ := List.pairwise_cons.1 this
    have h' : TB w l := h.sub (List.sublist_cons_self _ _)
    rcases List.mem_cons.1 hx with rfl | hx' <;> rcases List.mem_cons.1 hy with rfl | hy'
    · rfl
    · have := h1 y hy'; rw [hp, cpP_self] at this; omega
    · have := h1 x hx'; rw [hp, cpP_self] at this; omega
    · exact ih h' hx' hy' h2

/-- Without a prefix's route. -/
def drR (l : List Ro) (p : Pf) : List Ro := l.filter fun x => !decide (x.p = p)

/-- What a prefix covers. -/
def unR (l : List Ro) (p : Pf) : List Ro := l.filter fun x => !decide (x.p = p) && cvP p x.p

/-- Put ahead of the first one that is above it. -/
def inR' (l : List Ro) (r : Ro) : List Ro := l.takeWhile (fun x => decide (cpP x.p r.p ≤ 0)) ++ r :: l.dropWhile (fun x => decide (cpP x.p r.p ≤ 0))

def ptR (l : List Ro) (r : Ro) : List Ro := inR' (drR l r.p) r

theorem mem_drR {l : List Ro} {p : Pf} {x : Ro} : x ∈ drR l p ↔ x ∈ l ∧ x.p ≠ p := by
  unfold drR; rw [List.mem_filter]; simp

theorem mem_unR {l : List Ro} {p : Pf} {x : Ro} : x ∈ unR l p ↔ x ∈ l ∧ x.p ≠ p ∧ cvP p x.p = true := by
  unfold unR; rw [List.mem_filter]; simp

theorem mem_inR {l : List Ro} {r x : Ro} : x ∈ inR' l r ↔ x = r ∨ x ∈ l := by
  unfold inR'
  rw [List.mem_append, List.mem_cons]
  have := List.takeWhile_append_dropWhile (p := fun x : Ro => decide (cpP x.p r.p ≤ 0)) (l := l)
  constructor
  · rintro (h | h | h)
    · exact .inr ((List.takeWhile_sublist _).subset h)
    · exact .inl h
    · exact .inr ((List.dropWhile_sublist _).subset h)
  · rintro (h | h)
    · exact .inr (.inl h)
    · rw [← this, List.mem_append] at h
      rcases h with h | h
      · exact .inl h
      · exact .inr (.inr h)

theorem mem_ptR {l : List Ro} {r x : Ro} : x ∈ ptR l r ↔ x = r ∨ (x ∈ l ∧ x.p ≠ r.p) := by
  unfold ptR; rw [mem_inR, mem_drR]

theorem inR_length (l : List Ro) (r : Ro) : (inR' l r).length = l.length + 1 := by
  unfold inR'
  have h : (l.takeWhile fun x => decide (cpP x.p r.p ≤ 0)).length + (l.dropWhile fun x => decide (cpP x.p r.p ≤ 0)).length = l.length := by
    rw [← List.length_append, List.takeWhile_append_dropWhile]
  rw [List.length_append, List.length_cons]; omega

theorem drR_length (l : List Ro) (p : Pf) : (drR l p).length ≤ l.length := List.length_filter_le _ _

theorem drR_tb {w : Int} {l : List Ro} (h : TB w l) (p : Pf) : TB w (drR l p) := h.sub List.filter_sublist

theorem inR_sorted {l : List Ro} {r : Ro} (h : l.Pairwise fun x y => cpP x.p y.p < 0) (hr : ∀ x ∈ l, x.p ≠ r.p) : (inR' l r).Pairwise fun x y => cpP x.p y.p < 0 := by
  unfold inR'
  induction l with
  | nil => simp
  | cons y l ih =>
    obtain ⟨h1, h2⟩ := List.pairwise_cons.1 h
    have hy := hr y (by simp)
    by_cases hc : cpP y.p r.p ≤ 0
    · rw [List.takeWhile_cons_of_pos (by simpa using hc), List.dropWhile_cons_of_pos (by simpa using hc)]
      have hyr : cpP y.p r.p < 0 := by
        rcases Int.lt_or_eq_of_le hc with h | h
        · exact h
        · exact absurd (cpP_zero.1 h) hy
      rw [List.cons_append, List.pairwise_cons]
      refine ⟨fun z hz => ?_, ih h2 fun x hx => hr x (by simp [hx])⟩
      have hz : z ∈ inR' l r := hz
      rcases mem_inR.1 hz with rfl | hz
      · exact hyr
      · exact h1 z hz
    · rw [List.takeWhile_cons_of_neg (by simpa using hc), List.dropWhile_cons_of_neg (by simpa using hc)]
      rw [List.nil_append, List.pairwise_cons]
      refine ⟨fun z hz => ?_, h⟩
      have hry : cpP r.p y.p < 0 := cpP_gt.1 (by omega)
      rcases List.mem_cons.1 hz with rfl | hz
      · exact hry
      · exact cpP_trans hry (h1 z hz)

theorem ptR_tb {w : Int} {l : List Ro} {r : Ro} (h : TB w l) (hl : l.length < 256) (hr : riR w r = true) : TB w (ptR l r) :=
  ⟨h.fam, by unfold ptR; rw [inR_length]; have := drR_length l r.p; omega, fun x hx => by
    rcases mem_ptR.1 hx with rfl | ⟨hx, _⟩
    · exact hr
    · exact h.right x hx, inR_sorted (drR_tb h _).sorted fun x hx => (mem_drR.1 hx).2⟩

/-- Two tables of the same routes are one. -/
theorem tb_ext {l m : List Ro} (hl : l.Pairwise fun x y => cpP x.p y.p < 0) (hm : m.Pairwise fun x y => cpP x.p y.p < 0) (h : ∀ x, x ∈ l ↔ x ∈ m) : l = m := by
  induction l generalizing m with
  | nil =>
    cases m with
    | nil => rfl
    | cons y m => have := (h y).2 (by simp); cases this
  | cons x l ih =>
    cases m with
    | nil => have := (h x).1 (by simp); cases this
    | cons y m =>
      obtain ⟨h1, h2⟩ := List.pairwise_cons.1 hl
      obtain ⟨g1, g2⟩ := List.pairwise_cons.1 hm
      have exy : x = y := by
        rcases List.mem_cons.1 ((h x).1 (by simp)) with e | hx
        · exact e
        · rcases List.mem_cons.1 ((h y).2 (by simp)) with e | hy
          · exact e.symm
          · have a := g1 x hx
            have b := h1 y hy
            have := cpP_trans a b
            rw [cpP_self] at this; omega
      subst exy
      rw [ih h2 g2 fun z => ?_]
      constructor
      · intro hz
        rcases List.mem_cons.1 ((h z).1 (by simp [hz])) with e | hz'
        · subst e; have := h1 z hz; rw [cpP_self] at this; omega
        · exact hz'
      · intro hz
        rcases List.mem_cons.1 ((h z).2 (by simp [hz])) with e | hz'
        · subst e; have := g1 z hz; rw [cpP_self] at this; omega
        · exact hz'

end Go.Sx.M
