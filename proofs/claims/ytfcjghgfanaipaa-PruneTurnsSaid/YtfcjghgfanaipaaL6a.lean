/-
  Texts in one: R L6M L6N L6T L6A L6B L6C L6D.
-/
import Derived.Test.YtfcjghgfanaipaaL1a
import Derived.Test.YtfcjghgfanaipaaSxS
import Derived.Test.YtfcjghgfanaipaaMa
import Derived.Test.YtfcjghgfanaipaaL2a

section
/-
  Rows of elements of one kind: reading them; what loops over them keep.
-/
namespace Go.Proofs.Ytfcjghgfanaipaa.L1
open Go.Sx Go.Sx.M

/-- What is in a cell. -/
def cW : AV → BitVec 64
  | .w64 x => x
  | _ => 0#64
def cI : AV → Int
  | .int _ n => n
  | _ => 0

theorem whole_row {T : Type} (de : T → AV) (l : List T) : List.take (l.map de).length (List.drop 0 (l.map de)) = l.map de := by rw [List.drop_zero, List.take_length]

theorem read_rows {T : Type} [Inhabited T] {de : T → AV} {l : List T} {b : Bool} {ty : TypeId} {esz : Nat} {t : TypeId} {o : Nat} {k : Int} {y : AV} (h0 : 0 ≤ k) (h1 : k < ((l.map de).length : Int)) (hp : partOf Try.prog t (de (at' l k.toNat)).cells o = some y) :
    (Blk.mk b ty esz true (l.map de)).read Try.prog t (0 + k.toNat) o = some y := by
  rw [List.length_map] at h1
  unfold Blk.read
  rw [Nat.zero_add, List.getElem?_map, at_get (show k.toNat < l.length by omega)]
  exact hp

theorem up {P : Nat → Prop} {k : Nat} (h : ∀ i, i < k → P i) (hk : P k) : ∀ i, i < k + 1 → P i := fun i hi => by
  rcases Nat.lt_or_eq_of_le (Nat.le_of_lt_succ hi) with h' | rfl
  · exact h i h'
  · exact hk

theorem notT {b : Bool} {Φ : Prop} (h : b = true ↔ Φ) (hn : ¬ Φ) : b = false := by
  cases b with
  | false => rfl
  | true => exact absurd (h.1 rfl) hn

theorem take_all {T : Type} {en : T → AV} {l : List T} {k : Nat} (h : l.length = k) : List.take k (List.drop 0 (l.map en)) = l.map en := by
  rw [List.drop_zero, List.take_of_length_le (by rw [List.length_map]; omega)]

theorem zLe (n : Nat) : (0 + n ≤ n) = True := by simp

theorem notF {b : Bool} (h : (!b) = false) : b = true := by cases b <;> simp_all
theorem notTT {b : Bool} (h : (!b) = true) : b = false := by cases b <;> simp_all

/-- One element more. -/
theorem take_one {T : Type} [Inhabited T] {l : List T} {k : Nat} (h : k < l.length) : l.take (k + 1) = l.take k ++ [at' l k] := by
  rw [List.take_add_one, at_get h]; rfl

end Go.Proofs.Ytfcjghgfanaipaa.L1
end

section
/-
  Layer 6: routes, and rows of routes: plain mathematics over the contracts' own terms.
-/
namespace Go.Sx.M
open Go.Proofs.Ytfcjghgfanaipaa.L1

/-- A prefix. -/
structure Pf where
  a : BitVec 64
  b : BitVec 64
  len : Int
  deriving DecidableEq, Inhabited

/-- A route. -/
structure Ro where
  p : Pf
  act : Int
  deriving DecidableEq, Inhabited

def mtP (p : Pf) (c d : BitVec 64) : Bool := matchB p.a p.b p.len c d
def cvP (p q : Pf) : Bool := decide (p.len ≤ q.len) && mtP p q.a q.b
def cpP (p q : Pf) : Int := cmpP p.a p.b p.len q.a q.b q.len
def riP (w : Int) (p : Pf) : Bool := rightB w p.a p.b p.len
def riR (w : Int) (r : Ro) : Bool := riP w r.p && (decide (r.act ≥ 1) && decide (r.act ≤ 255))

theorem cpP_lt {p q : Pf} : cpP p q < 0 ↔ V p.a p.b < V q.a q.b ∨ (V p.a p.b = V q.a q.b ∧ p.len < q.len) := by
  unfold cpP cmpP orI cmpV cmpI
  split <;> split <;> (try split) <;> (try split) <;> simp_all <;> omega

theorem cpP_zero {p q : Pf} : cpP p q = 0 ↔ p = q := by
  unfold cpP
  rw [cmpP_zero]
  cases p; cases q; simp

theorem cpP_gt {p q : Pf} : cpP p q > 0 ↔ cpP q p < 0 := by
  rw [cpP_lt]
  unfold cpP cmpP orI cmpV cmpI
  split <;> split <;> (try split) <;> (try split) <;> simp_all <;> omega

theorem cpP_trans {p q r : Pf} (h1 : cpP p q < 0) (h2 : cpP q r < 0) : cpP p r < 0 := by
  rw [cpP_lt] at *
  omega

theorem cpP_self (p : Pf) : cpP p p = 0 := cpP_zero.2 rfl

/-- What is known of a prefix that may be. -/
theorem riP_iff {w : Int} {p : Pf} : riP w p = true ↔ (w = 32 ∨ w = 128) ∧ 0 ≤ p.len ∧ p.len ≤ w ∧ ∀ i : Nat, i < 128 → p.len ≤ (i : Int) → bitAt p.a p.b i = false := right_iff

theorem mtP_iff {p : Pf} {c d : BitVec 64} : mtP p c d = true ↔ ∀ i : Nat, i < 128 → (i : Int) < p.len → bitAt p.a p.b i = bitAt c d i := match_iff

theorem cvP_iff {p q : Pf} : cvP p q = true ↔ p.len ≤ q.len ∧ ∀ i : Nat, i < 128 → (i : Int) < p.len → bitAt p.a p.b i = bitAt q.a q.b i := by
  unfold cvP
  rw [Bool.and_eq_true, decide_eq_true_eq, mtP_iff]

/-- Two that may be, of one length, that match one address, are one. -/
theorem riP_eq {w w' : Int} {p q : Pf} {c d : BitVec 64} (hp : riP w p = true) (hq : riP w' q = true) (hl : p.len = q.len) (h1 : mtP p c d = true) (h2 : mtP q c d = true) : p = q := by
  obtain ⟨_, _, _, p3⟩ := riP_iff.1 hp
  obtain ⟨_, _, _, q3⟩ := riP_iff.1 hq
  rw [mtP_iff] at h1 h2
  have : p.a = q.a ∧ p.b = q.b := bitAt_eq fun i hi => by
    by_cases h : (i : Int) < p.len
    · rw [h1 i hi h, h2 i hi (by omega)]
    · rw [p3 i hi (by omega), q3 i hi (by omega)]
  cases p; cases q; simp_all

/-- A table. -/
structure TB (w : Int) (l : List Ro) : Prop where
  fam : w = 32 ∨ w = 128
  most : l.length ≤ 256
  right : ∀ x ∈ l, riR w x = true
  sorted : l.Pairwise fun x y => cpP x.p y.p < 0

def tbR (w : Int) (l : List Ro) : Bool := decide ((w = 32 ∨ w = 128) ∧ l.length ≤ 256 ∧ (∀ i, i < l.length → riR w (at' l i) = true) ∧ ∀ i, i < l.length → 0 < i → cpP (at' l (i - 1)).p (at' l i).p < 0)

theorem tbR_iff {w : Int} {l : List Ro} : tbR w l = true ↔ TB w l := by
  unfold tbR
  rw [decide_eq_true_eq]
  constructor
  · rintro ⟨h1, h2, h3, h4⟩
    refine ⟨h1, h2, fun x hx => ?_, ?_⟩
    · obtain ⟨k, hk, rfl⟩ := mem_at hx
      exact h3 k hk
    · have key : ∀ k, k < l.length → ∀ i, i < k → cpP (at' l i).p (at' l k).p < 0 := by
        intro k
        induction k with
        | zero => intro _ i hi; omega
        | succ k ih =>
          intro hk i hi
          have h5 := h4 (k + 1) hk (by omega)
          rw [Nat.add_sub_cancel] at h5
          rcases Nat.lt_or_eq_of_le (Nat.le_of_lt_succ hi) with h | rfl
          · exact cpP_trans (ih (by omega) i h) h5
          · exact h5
      refine List.pairwise_iff_getElem.2 fun i j hi hj hij => ?_
      have e1 : l[i] = at' l i := by have := at_get hi; rw [List.getElem?_eq_getElem hi] at this; exact Option.some_inj.1 this
      have e2 : l[j] = at' l j := by have := at_get hj; rw [List.getElem?_eq_getElem hj] at this; exact Option.some_inj.1 this
      rw [e1, e2]
      exact key j hj i hij
  · intro h
    refine ⟨h.fam, h.most, fun i hi => h.right _ (at_mem hi), fun i hi h0 => ?_⟩
    have := List.pairwise_iff_getElem.1 h.sorted (i - 1) i (by omega) hi (by omega)
    have h' : i - 1 < l.length := by omega
    have e1 : l[i - 1] = at' l (i - 1) := by have := at_get h'; rw [List.getElem?_eq_getElem h'] at this; exact Option.some_inj.1 this
    have e2 : l[i] = at' l i := by have := at_get hi; rw [List.getElem?_eq_getElem hi] at this; exact Option.some_inj.1 this
    rw [e1, e2] at this
    exact this

theorem TB.rip {w : Int} {l : List Ro} (h : TB w l) {x : Ro} (hx : x ∈ l) : riP w x.p = true := by
  have := h.right x hx
  unfold riR at this
  rw [Bool.and_eq_true] at this
  exact this.1

theorem TB.sub {w : Int} {l m : List Ro} (h : TB w l) (hs : m.Sublist l) : TB w m :=
  ⟨h.fam, Nat.le_trans hs.length_le h.most, fun x hx => h.right x (hs.subset hx), h.sorted.sublist hs⟩

/-- Of a table each prefix has one route. -/
theorem TB.one {w : Int} {l : List Ro} (h : TB w l) {x y : Ro} (hx : x ∈ l) (hy : y ∈ l) (hp : x.p = y.p) : x = y := by
  have := h.sorted
  induction l with
  | nil => cases hx
  | cons z l ih =>
    obtain ⟨h1, h2⟩ := List.pairwise_cons.1 this
    have h' : TB w l := h.sub (List.sublist_cons_self _ _)
    rcases List.mem_cons.1 hx with rfl | hx' <;> rcases List.mem_cons.1 hy with rfl | hy'
    · rfl
    · have := h1 y hy'; rw [hp, cpP_self] at this; omega
    · have := h1 x hx'; rw [hp, cpP_self] at this; omega
    · exact ih h' hx' hy' h2

/-- Without a prefix's route. -/
def drR (l : List Ro) (p : Pf) : List Ro := l.filter fun x => !decide (x.p = p)

/-- What a prefix covers. -/
def unR (l : List Ro) (p : Pf) : List Ro := l.filter fun x => !decide (x.p = p) && cvP p x.p

/-- Put ahead of the first one that is above it. -/
def inR' (l : List Ro) (r : Ro) : List Ro := l.takeWhile (fun x => decide (cpP x.p r.p ≤ 0)) ++ r :: l.dropWhile (fun x => decide (cpP x.p r.p ≤ 0))

def ptR (l : List Ro) (r : Ro) : List Ro := inR' (drR l r.p) r

theorem mem_drR {l : List Ro} {p : Pf} {x : Ro} : x ∈ drR l p ↔ x ∈ l ∧ x.p ≠ p := by
  unfold drR; rw [List.mem_filter]; simp

theorem mem_unR {l : List Ro} {p : Pf} {x : Ro} : x ∈ unR l p ↔ x ∈ l ∧ x.p ≠ p ∧ cvP p x.p = true := by
  unfold unR; rw [List.mem_filter]; simp

theorem mem_inR {l : List Ro} {r x : Ro} : x ∈ inR' l r ↔ x = r ∨ x ∈ l := by
  unfold inR'
  rw [List.mem_append, List.mem_cons]
  have := List.takeWhile_append_dropWhile (p := fun x : Ro => decide (cpP x.p r.p ≤ 0)) (l := l)
  constructor
  · rintro (h | h | h)
    · exact .inr ((List.takeWhile_sublist _).subset h)
    · exact .inl h
    · exact .inr ((List.dropWhile_sublist _).subset h)
  · rintro (h | h)
    · exact .inr (.inl h)
    · rw [← this, List.mem_append] at h
      rcases h with h | h
      · exact .inl h
      · exact .inr (.inr h)

theorem mem_ptR {l : List Ro} {r x : Ro} : x ∈ ptR l r ↔ x = r ∨ (x ∈ l ∧ x.p ≠ r.p) := by
  unfold ptR; rw [mem_inR, mem_drR]

theorem inR_length (l : List Ro) (r : Ro) : (inR' l r).length = l.length + 1 := by
  unfold inR'
  have h : (l.takeWhile fun x => decide (cpP x.p r.p ≤ 0)).length + (l.dropWhile fun x => decide (cpP x.p r.p ≤ 0)).length = l.length := by
    rw [← List.length_append, List.takeWhile_append_dropWhile]
  rw [List.length_append, List.length_cons]; omega

theorem drR_length (l : List Ro) (p : Pf) : (drR l p).length ≤ l.length := List.length_filter_le _ _

theorem drR_tb {w : Int} {l : List Ro} (h : TB w l) (p : Pf) : TB w (drR l p) := h.sub List.filter_sublist

theorem inR_sorted {l : List Ro} {r : Ro} (h : l.Pairwise fun x y => cpP x.p y.p < 0) (hr : ∀ x ∈ l, x.p ≠ r.p) : (inR' l r).Pairwise fun x y => cpP x.p y.p < 0 := by
  unfold inR'
  induction l with
  | nil => simp
  | cons y l ih =>
    obtain ⟨h1, h2⟩ := List.pairwise_cons.1 h
    have hy := hr y (by simp)
    by_cases hc : cpP y.p r.p ≤ 0
    · rw [List.takeWhile_cons_of_pos (by simpa using hc), List.dropWhile_cons_of_pos (by simpa using hc)]
      have hyr : cpP y.p r.p < 0 := by
        rcases Int.lt_or_eq_of_le hc with h | h
        · exact h
        · exact absurd (cpP_zero.1 h) hy
      rw [List.cons_append, List.pairwise_cons]
      refine ⟨fun z hz => ?_, ih h2 fun x hx => hr x (by simp [hx])⟩
      have hz : z ∈ inR' l r := hz
      rcases mem_inR.1 hz with rfl | hz
      · exact hyr
      · exact h1 z hz
    · rw [List.takeWhile_cons_of_neg (by simpa using hc), List.dropWhile_cons_of_neg (by simpa using hc)]
      rw [List.nil_append, List.pairwise_cons]
      refine ⟨fun z hz => ?_, h⟩
      have hry : cpP r.p y.p < 0 := cpP_gt.1 (by omega)
      rcases List.mem_cons.1 hz with rfl | hz
      · exact hry
      · exact cpP_trans hry (h1 z hz)

theorem ptR_tb {w : Int} {l : List Ro} {r : Ro} (h : TB w l) (hl : l.length < 256) (hr : riR w r = true) : TB w (ptR l r) :=
  ⟨h.fam, by unfold ptR; rw [inR_length]; have := drR_length l r.p; omega, fun x hx => by
    rcases mem_ptR.1 hx with rfl | ⟨hx, _⟩
    · exact hr
    · exact h.right x hx, inR_sorted (drR_tb h _).sorted fun x hx => (mem_drR.1 hx).2⟩

/-- Two tables of the same routes are one. -/
theorem tb_ext {l m : List Ro} (hl : l.Pairwise fun x y => cpP x.p y.p < 0) (hm : m.Pairwise fun x y => cpP x.p y.p < 0) (h : ∀ x, x ∈ l ↔ x ∈ m) : l = m := by
  induction l generalizing m with
  | nil =>
    cases m with
    | nil => rfl
    | cons y m => have := (h y).2 (by simp); cases this
  | cons x l ih =>
    cases m with
    | nil => have := (h x).1 (by simp); cases this
    | cons y m =>
      obtain ⟨h1, h2⟩ := List.pairwise_cons.1 hl
      obtain ⟨g1, g2⟩ := List.pairwise_cons.1 hm
      have exy : x = y := by
        rcases List.mem_cons.1 ((h x).1 (by simp)) with e | hx
        · exact e
        · rcases List.mem_cons.1 ((h y).2 (by simp)) with e | hy
          · exact e.symm
          · have a := g1 x hx
            have b := h1 y hy
            have := cpP_trans a b
            rw [cpP_self] at this; omega
      subst exy
      rw [ih h2 g2 fun z => ?_]
      constructor
      · intro hz
        rcases List.mem_cons.1 ((h z).1 (by simp [hz])) with e | hz'
        · subst e; have := h1 z hz; rw [cpP_self] at this; omega
        · exact hz'
      · intro hz
        rcases List.mem_cons.1 ((h z).2 (by simp [hz])) with e | hz'
        · subst e; have := g1 z hz; rw [cpP_self] at this; omega
        · exact hz'

end Go.Sx.M
end

section
/-
  Layer 6: the best route, the nearest one that covers, chains: plain mathematics.
-/
namespace Go.Sx.M
open Go.Proofs.Ytfcjghgfanaipaa.L1

/-- Of the first n, looked at in their order, the first one of those that are the greatest; -1: there is none. -/
def fbX {T : Type} [Inhabited T] (ok : T → Bool) (ln : T → Int) (l : List T) : Nat → Int
  | 0 => -1
  | n + 1 => if (decide (fbX ok ln l n < 0) || decide (ln (at' l n) > ln (at' l (fbX ok ln l n).toNat))) && ok (at' l n) then (n : Int) else fbX ok ln l n

/-- It is that one. -/
def FbX {T : Type} [Inhabited T] (ok : T → Bool) (ln : T → Int) (l : List T) (n : Nat) (r : Int) : Prop :=
  (r = -1 ∧ ∀ j, j < n → ok (at' l j) = false) ∨ ∃ i : Nat, r = i ∧ i < n ∧ ok (at' l i) = true ∧ ∀ j, j < n → ok (at' l j) = true → ln (at' l j) ≤ ln (at' l i) ∧ (j < i → ln (at' l j) < ln (at' l i))

theorem fbX_spec {T : Type} [Inhabited T] (ok : T → Bool) (ln : T → Int) (l : List T) : ∀ n, FbX ok ln l n (fbX ok ln l n)
  | 0 => .inl ⟨rfl, fun j h => by omega⟩
  | n + 1 => by
    have ih := fbX_spec ok ln l n
    unfold fbX
    generalize fbX ok ln l n = r at ih
    cases hm : ok (at' l n) with
    | false =>
      rw [Bool.and_false, if_neg (by simp)]
      rcases ih with ⟨h1, h2⟩ | ⟨i, h1, h2, h3, h4⟩
      · exact .inl ⟨h1, fun j hj => by
          rcases Nat.lt_or_eq_of_le (Nat.le_of_lt_succ hj) with h | rfl
          · exact h2 j h
          · exact hm⟩
      · exact .inr ⟨i, h1, by omega, h3, fun j hj hj2 => by
          rcases Nat.lt_or_eq_of_le (Nat.le_of_lt_succ hj) with h | rfl
          · exact h4 j h hj2
          · rw [hm] at hj2; cases hj2⟩
    | true =>
      rw [Bool.and_true]
      rcases ih with ⟨rfl, h2⟩ | ⟨i, rfl, h2, h3, h4⟩
      · rw [if_pos (by simp)]
        exact .inr ⟨n, rfl, by omega, hm, fun j hj hj2 => by
          rcases Nat.lt_or_eq_of_le (Nat.le_of_lt_succ hj) with h | rfl
          · rw [h2 j h] at hj2; cases hj2
          · exact ⟨Int.le_refl _, fun h => by omega⟩⟩
      · have e3 : ((i : Int)).toNat = i := by omega
        rw [e3, show decide ((i : Int) < 0) = false from by simp, Bool.false_or]
        by_cases hl : ln (at' l n) > ln (at' l i)
        · rw [if_pos (by simpa using hl)]
          exact .inr ⟨n, rfl, by omega, hm, fun j hj hj2 => by
            rcases Nat.lt_or_eq_of_le (Nat.le_of_lt_succ hj) with h | rfl
            · have := (h4 j h hj2).1
              exact ⟨by omega, fun _ => by omega⟩
            · exact ⟨Int.le_refl _, fun h => by omega⟩⟩
        · rw [if_neg (by simpa using hl)]
          exact .inr ⟨i, rfl, by omega, h3, fun j hj hj2 => by
            rcases Nat.lt_or_eq_of_le (Nat.le_of_lt_succ hj) with h | rfl
            · exact h4 j h hj2
            · exact ⟨by omega, fun h => by omega⟩⟩

theorem FbX.uniq {T : Type} [Inhabited T] {ok : T → Bool} {ln : T → Int} {l : List T} {n : Nat} {r s : Int} (h : FbX ok ln l n r) (h' : FbX ok ln l n s) : r = s := by
  rcases h with ⟨rfl, h⟩ | ⟨i, rfl, hi, h1, h2⟩ <;> rcases h' with ⟨rfl, g⟩ | ⟨k, rfl, hk, g1, g2⟩
  · rfl
  · rw [h k hk] at g1; cases g1
  · rw [g i hi] at h1; cases h1
  · have a1 := h2 k hk g1
    have a2 := g2 i hi h1
    rcases Nat.lt_trichotomy i k with h | h | h
    · have := a2.2 h; omega
    · rw [h]
    · have := a1.2 h; omega

/-- It matches, and its length may be. -/
def okR (c d : BitVec 64) (x : Ro) : Bool := mtP x.p c d && (decide (0 ≤ x.p.len) && decide (x.p.len ≤ 128))

def lnR (x : Ro) : Int := x.p.len

def bxR (l : List Ro) (c d : BitVec 64) : Int := fbX (okR c d) lnR l l.length

/-- The best route for an address, if there is one. -/
def bsR (l : List Ro) (c d : BitVec 64) : Option Ro := if bxR l c d < 0 then none else some (at' l (bxR l c d).toNat)

/-- What is to be done. -/
def tlR (l : List Ro) (c d : BitVec 64) : Int := match bsR l c d with | none => 0 | some x => x.act

/-- The nearest route that covers a prefix. -/
def cvrR (l : List Ro) (p : Pf) : Option Ro := bsR (l.filter fun x => decide (x.p.len < p.len)) p.a p.b

/-- A prefix's route. -/
def fdR (l : List Ro) (p : Pf) : Option Ro := l.find? fun x => decide (x.p = p)

theorem bsR_of {l : List Ro} {c d : BitVec 64} {i : Nat} (hi : i < l.length) (h1 : okR c d (at' l i) = true) (h2 : ∀ j, j < l.length → okR c d (at' l j) = true → lnR (at' l j) ≤ lnR (at' l i) ∧ (j < i → lnR (at' l j) < lnR (at' l i))) : bsR l c d = some (at' l i) := by
  have : bxR l c d = i := (fbX_spec _ _ _ _).uniq (.inr ⟨i, rfl, hi, h1, h2⟩)
  unfold bsR
  rw [this, if_neg (by omega)]; rfl

theorem bsR_none {l : List Ro} {c d : BitVec 64} (h : ∀ j, j < l.length → okR c d (at' l j) = false) : bsR l c d = none := by
  have : bxR l c d = -1 := (fbX_spec _ _ _ _).uniq (.inl ⟨rfl, h⟩)
  unfold bsR
  rw [this, if_pos (by omega)]

theorem bsR_cases (l : List Ro) (c d : BitVec 64) : (bsR l c d = none ∧ ∀ x ∈ l, okR c d x = false) ∨ ∃ x, x ∈ l ∧ bsR l c d = some x ∧ okR c d x = true ∧ ∀ y ∈ l, okR c d y = true → y.p.len ≤ x.p.len := by
  rcases fbX_spec (okR c d) lnR l l.length with ⟨h1, h2⟩ | ⟨i, h1, hi, h2, h3⟩
  · exact .inl ⟨bsR_none h2, fun x hx => by obtain ⟨j, hj, rfl⟩ := mem_at hx; exact h2 j hj⟩
  · exact .inr ⟨at' l i, at_mem hi, bsR_of hi h2 h3, h2, fun y hy hm => by obtain ⟨j, hj, rfl⟩ := mem_at hy; exact (h3 j hj hm).1⟩

theorem okR_tb {w : Int} {l : List Ro} (h : TB w l) {x : Ro} (hx : x ∈ l) (c d : BitVec 64) : okR c d x = mtP x.p c d := by
  obtain ⟨h1, h2, h3, _⟩ := riP_iff.1 (h.rip hx)
  unfold okR
  rw [show decide (0 ≤ x.p.len) = true from by simpa using h2, show decide (x.p.len ≤ 128) = true from by simp; omega]
  simp

theorem bsR_tb {w : Int} {l : List Ro} (h : TB w l) (c d : BitVec 64) : (bsR l c d = none ∧ ∀ x ∈ l, mtP x.p c d = false) ∨ ∃ x, x ∈ l ∧ bsR l c d = some x ∧ mtP x.p c d = true ∧ ∀ y ∈ l, mtP y.p c d = true → y.p.len ≤ x.p.len := by
  rcases bsR_cases l c d with ⟨h1, h2⟩ | ⟨x, hx, h1, h2, h3⟩
  · exact .inl ⟨h1, fun x hx => by rw [← okR_tb h hx]; exact h2 x hx⟩
  · exact .inr ⟨x, hx, h1, by rw [← okR_tb h hx]; exact h2, fun y hy hm => h3 y hy (by rw [okR_tb h hy]; exact hm)⟩

/-- Of a table the longest one that matches is the best one. -/
theorem bsR_max {w : Int} {l : List Ro} (h : TB w l) {c d : BitVec 64} {x : Ro} (hx : x ∈ l) (hm : mtP x.p c d = true) (hl : ∀ y ∈ l, mtP y.p c d = true → y.p.len ≤ x.p.len) : bsR l c d = some x := by
  rcases bsR_tb h c d with ⟨_, h2⟩ | ⟨y, hy, h1, h2, h3⟩
  · rw [h2 x hx] at hm; cases hm
  · rw [h1, Option.some_inj]
    exact h.one hy hx (riP_eq (h.rip hy) (h.rip hx) (Int.le_antisymm (hl y hy h2) (h3 x hx hm)) h2 hm)

/-- The best ones of two tables are one where the same routes match. -/
theorem bsR_same {w : Int} {l m : List Ro} (hl : TB w l) (hm : TB w m) {c d c' d' : BitVec 64} (h : ∀ x, (x ∈ l ∧ mtP x.p c d = true) ↔ (x ∈ m ∧ mtP x.p c' d' = true)) : bsR l c d = bsR m c' d' := by
  rcases bsR_tb hl c d with ⟨h1, h2⟩ | ⟨x, hx, h1, h2, h3⟩
  · rcases bsR_tb hm c' d' with ⟨g1, _⟩ | ⟨y, hy, _, g2, _⟩
    · rw [h1, g1]
    · obtain ⟨a, b⟩ := (h y).2 ⟨hy, g2⟩
      rw [h2 y a] at b; cases b
  · obtain ⟨a, b⟩ := (h x).1 ⟨hx, h2⟩
    rw [h1]
    exact (bsR_max hm a b fun y hy hy2 => by
      obtain ⟨e, f⟩ := (h y).2 ⟨hy, hy2⟩
      exact h3 y e f).symm

theorem shorter_tb {w : Int} {l : List Ro} (h : TB w l) (n : Int) : TB w (l.filter fun x => decide (x.p.len < n)) := h.sub List.filter_sublist

/-- Without the best one, the one that covers it is. -/
theorem best_drop {w : Int} {l : List Ro} (h : TB w l) {c d : BitVec 64} {r : Ro} (hb : bsR l c d = some r) : bsR (drR l r.p) c d = cvrR l r.p ∧ mtP r.p c d = true ∧ r ∈ l := by
  rcases bsR_tb h c d with ⟨h1, _⟩ | ⟨x, hx, h1, h2, h3⟩
  · rw [h1] at hb; cases hb
  · rw [h1, Option.some_inj] at hb
    subst hb
    refine ⟨bsR_same (drR_tb h _) (shorter_tb h _) fun y => ?_, h2, hx⟩
    rw [mem_drR, List.mem_filter, decide_eq_true_eq]
    constructor
    · rintro ⟨⟨hy, hne⟩, hm⟩
      have hle := h3 y hy hm
      have hlt : y.p.len < x.p.len := by
        rcases Int.lt_or_eq_of_le hle with h' | h'
        · exact h'
        · exact absurd (riP_eq (h.rip hy) (h.rip hx) h' hm h2) hne
      refine ⟨⟨hy, hlt⟩, mtP_iff.2 fun i hi hi2 => ?_⟩
      rw [mtP_iff.1 hm i hi hi2, mtP_iff.1 h2 i hi (by omega)]
    · rintro ⟨⟨hy, hlt⟩, hm⟩
      refine ⟨⟨hy, fun e => by rw [e] at hlt; omega⟩, mtP_iff.2 fun i hi hi2 => ?_⟩
      rw [mtP_iff.1 hm i hi hi2, mtP_iff.1 h2 i hi (by omega)]

theorem fdR_cases (l : List Ro) (p : Pf) : (fdR l p = none ∧ ∀ x ∈ l, x.p ≠ p) ∨ ∃ x, x ∈ l ∧ x.p = p ∧ fdR l p = some x := by
  unfold fdR
  cases h : l.find? fun x => decide (x.p = p) with
  | none => exact .inl ⟨rfl, fun x hx => by have := List.find?_eq_none.1 h x hx; simpa using this⟩
  | some x => exact .inr ⟨x, List.mem_of_find?_eq_some h, by have := List.find?_some h; simpa using this, rfl⟩

theorem fdR_tb {w : Int} {l : List Ro} (h : TB w l) {x : Ro} (hx : x ∈ l) : fdR l x.p = some x := by
  rcases fdR_cases l x.p with ⟨_, h2⟩ | ⟨y, hy, he, h1⟩
  · exact absurd rfl (h2 x hx)
  · rw [h1, h.one hy hx he]

/-- How many cover one another, one behind the other, at most ('n': no more than so many are looked for). -/
def chF : Nat → List Ro → Int
  | 0, _ => 0
  | n + 1, l => l.foldl (fun m x => if 1 + chF n (unR l x.p) > m then 1 + chF n (unR l x.p) else m) 0

def chR (l : List Ro) : Int := chF l.length l

theorem unR_lt {l : List Ro} {x : Ro} (hx : x ∈ l) : (unR l x.p).length < l.length := by
  unfold unR
  exact List.length_filter_lt_length_iff_exists.2 ⟨x, hx, by simp⟩

theorem mxF_ge (f : Ro → Int) : ∀ (l : List Ro) (m : Int), m ≤ l.foldl (fun m x => if f x > m then f x else m) m ∧ ∀ x ∈ l, f x ≤ l.foldl (fun m x => if f x > m then f x else m) m
  | [], m => ⟨Int.le_refl _, fun x hx => by cases hx⟩
  | y :: l, m => by
    rw [List.foldl_cons]
    obtain ⟨h1, h2⟩ := mxF_ge f l (if f y > m then f y else m)
    have h3 : m ≤ (if f y > m then f y else m) ∧ f y ≤ (if f y > m then f y else m) := by split <;> omega
    refine ⟨Int.le_trans h3.1 h1, fun x hx => ?_⟩
    rcases List.mem_cons.1 hx with rfl | hx
    · exact Int.le_trans h3.2 h1
    · exact h2 x hx

theorem mxF_is (f : Ro → Int) : ∀ (l : List Ro) (m : Int), l.foldl (fun m x => if f x > m then f x else m) m = m ∨ ∃ x ∈ l, l.foldl (fun m x => if f x > m then f x else m) m = f x
  | [], m => .inl rfl
  | y :: l, m => by
    rw [List.foldl_cons]
    rcases mxF_is f l (if f y > m then f y else m) with h | ⟨x, hx, h⟩
    · rw [h]
      split
      · exact .inr ⟨y, by simp, rfl⟩
      · exact .inl rfl
    · exact .inr ⟨x, by simp [hx], h⟩

/-- Each one covers the next ones. -/
def IsCh (s : List Ro) : Prop := s.Pairwise fun x y => y.p ≠ x.p ∧ cvP x.p y.p = true

theorem ch_upper : ∀ (n : Nat) (l s : List Ro), l.length ≤ n → IsCh s → (∀ x ∈ s, x ∈ l) → (s.length : Int) ≤ chF n l
  | 0, l, s, h, _, hs => by
    have : l = [] := List.eq_nil_of_length_eq_zero (by omega)
    subst this
    cases s with
    | nil => exact Int.le_refl _
    | cons x s => have := hs x (by simp); cases this
  | n + 1, l, s, h, hc, hs => by
    unfold chF
    obtain ⟨h1, h2⟩ := mxF_ge (fun x => 1 + chF n (unR l x.p)) l 0
    cases s with
    | nil => exact h1
    | cons x s =>
      obtain ⟨g1, g2⟩ := List.pairwise_cons.1 hc
      have hx := hs x (by simp)
      have hlt := unR_lt hx
      have := ch_upper n (unR l x.p) s (by omega) g2 fun y hy => mem_unR.2 ⟨hs y (by simp [hy]), (g1 y hy).1, (g1 y hy).2⟩
      have h3 := h2 x hx
      rw [List.length_cons]
      omega

theorem ch_exists : ∀ (n : Nat) (l : List Ro), l.length ≤ n → ∃ s, IsCh s ∧ (∀ x ∈ s, x ∈ l) ∧ (s.length : Int) = chF n l
  | 0, l, _ => ⟨[], .nil, (fun x hx => by cases hx), rfl⟩
  | n + 1, l, h => by
    unfold chF
    rcases mxF_is (fun x => 1 + chF n (unR l x.p)) l 0 with e | ⟨x, hx, e⟩
    · exact ⟨[], .nil, (fun x hx => by cases hx), by rw [e]; rfl⟩
    · have hlt := unR_lt hx
      obtain ⟨s, h1, h2, h3⟩ := ch_exists n (unR l x.p) (by omega)
      refine ⟨x :: s, List.pairwise_cons.2 ⟨fun y hy => ?_, h1⟩, fun y hy => ?_, ?_⟩
      · obtain ⟨_, a, b⟩ := mem_unR.1 (h2 y hy)
        exact ⟨a, b⟩
      · rcases List.mem_cons.1 hy with rfl | hy
        · exact hx
        · exact (mem_unR.1 (h2 y hy)).1
      · rw [e, List.length_cons]; omega

theorem chR_upper {l s : List Ro} (hc : IsCh s) (hs : ∀ x ∈ s, x ∈ l) : (s.length : Int) ≤ chR l := ch_upper _ l s (Nat.le_refl _) hc hs
theorem chR_exists (l : List Ro) : ∃ s, IsCh s ∧ (∀ x ∈ s, x ∈ l) ∧ (s.length : Int) = chR l := ch_exists _ l (Nat.le_refl _)

end Go.Sx.M
end

section
/-
  Layer 6: routes as values of the calculus.
-/
namespace Go.Proofs.Ytfcjghgfanaipaa.L1
open Go.Sx Go.Sx.M

/-- A prefix's cells; a route's. -/
def pfE (p : Pf) : AV := .agg [.w64 p.a, .w64 p.b, .int .i64 p.len]
def roE (x : Ro) : AV := .agg [.w64 x.p.a, .w64 x.p.b, .int .i64 x.p.len, .int .i64 x.act]

/-- The route of such cells. -/
def deR1 (x : AV) : Ro := ⟨⟨cW (x.cells.getD 0 .any), cW (x.cells.getD 1 .any), cI (x.cells.getD 2 .any)⟩, cI (x.cells.getD 3 .any)⟩

/-- The routes of a row. -/
def deR (l : List AV) : List Ro := l.map deR1

theorem deR_map (l : List Ro) : deR (l.map roE) = l := by
  unfold deR
  rw [List.map_map]
  exact List.map_id l

/-- Rows of routes: the program's, the document's. -/
def pRo : Par := some (48, 4)
def pRefR : Par := some (36, 4)

theorem ro_whole (x : Ro) : partOf Try.prog 48 (roE x).cells 0 = some (roE x) := by kernel_rfl
theorem rr_whole (x : Ro) : partOf Try.prog 36 (roE x).cells 0 = some (roE x) := by kernel_rfl
theorem ro_p (x : Ro) : partOf Try.prog 27 (roE x).cells 0 = some (pfE x.p) := by kernel_rfl
theorem rr_p (x : Ro) : partOf Try.prog 34 (roE x).cells 0 = some (pfE x.p) := by kernel_rfl
theorem ro_len (x : Ro) : partOf Try.prog 3 (roE x).cells 2 = some (.int .i64 x.p.len) := by kernel_rfl
theorem ro_act (x : Ro) : partOf Try.prog 3 (roE x).cells 3 = some (.int .i64 x.act) := by kernel_rfl

/-- A route, or none. -/
def roO (o : Option Ro) : Ro := o.getD ⟨⟨0#64, 0#64, 0⟩, 0⟩

/-- What the cells of a route of a law's are. -/
theorem Ro_dec (cs : List Value) (h : fitsAll [.int .u64, .int .u64, .int .i64, .int .i64] cs) : ∃ x : Ro, (roE x).cells.length = 4 ∧ (roE x).sound = true ∧ AVRs [] (roE x).cells cs := by
  obtain ⟨x0, l0, rfl, f0, g0⟩ := fits_cons h
  obtain ⟨x1, l1, rfl, f1, g1⟩ := fits_cons g0
  obtain ⟨x2, l2, rfl, f2, g2⟩ := fits_cons g1
  obtain ⟨x3, l3, rfl, f3, g3⟩ := fits_cons g2
  obtain rfl := fits_nil g3
  obtain ⟨v, rfl⟩ := fits_u64 f0
  obtain ⟨w, rfl⟩ := fits_u64 f1
  obtain ⟨k, rfl, _⟩ := f2
  obtain ⟨j, rfl, _⟩ := f3
  exact ⟨⟨⟨v, w, k⟩, j⟩, rfl, rfl, .cons (.w64 _) (.cons (.w64 _) (.cons (.int _ _) (.cons (.int _ _) .nil)))⟩

end Go.Proofs.Ytfcjghgfanaipaa.L1
end

section
/-
  Layer 6: contracts of the document's Right, Table, Drop, Find, Under.
-/
namespace Go.Proofs.Ytfcjghgfanaipaa.L1
open Go.Sx Go.Sx.M

theorem eqPf (p : Pf) (a b : BitVec 64) (k : Int) : (andAll [andAll [p.a == a, p.b == b], p.len == k]) = decide (p = ⟨a, b, k⟩) := by
  rw [Bool.eq_iff_iff, decide_eq_true_eq]
  cases p
  simp [andAll, and_assoc]

theorem tbR_def {w : Int} {l : List Ro} : tbR w l = true ↔ (w = 32 ∨ w = 128) ∧ l.length ≤ 256 ∧ (∀ i, i < l.length → riR w (at' l i) = true) ∧ ∀ i, i < l.length → 0 < i → cpP (at' l (i - 1)).p (at' l i).p < 0 := by
  unfold tbR; rw [decide_eq_true_eq]

theorem drR_snoc (l : List Ro) (x : Ro) (p : Pf) : drR (l ++ [x]) p = if x.p ≠ p then drR l p ++ [x] else drR l p := by
  unfold drR
  rw [List.filter_append]
  by_cases h : x.p = p
  · rw [if_neg (by simpa using h), List.filter_cons_of_neg (by simpa using h)]; simp
  · rw [if_pos h, List.filter_cons_of_pos (by simpa using h)]; simp

theorem fdR_first {l : List Ro} {q : Pf} {p : Nat} (hp : p < l.length) (he : (at' l p).p = q) (h : ∀ i, i < p → (at' l i).p ≠ q) : fdR l q = some (at' l p) := by
  unfold fdR
  rw [List.find?_eq_some_iff_getElem]
  have e : ∀ i (hi : i < l.length), l[i] = at' l i := fun i hi => by have := at_get hi; rw [List.getElem?_eq_getElem hi] at this; exact Option.some_inj.1 this
  refine ⟨by simpa using he, p, hp, e p hp, fun j hj => ?_⟩
  rw [e j (by omega)]
  simpa using h j hj

theorem fdR_nil {l : List Ro} {q : Pf} (h : ∀ i, i < l.length → (at' l i).p ≠ q) : fdR l q = none := by
  unfold fdR
  rw [List.find?_eq_none]
  intro x hx
  obtain ⟨j, hj, rfl⟩ := mem_at hx
  simpa using h j hj

def rtSt (l : List Ro) (w : Int) (p : Nat) : St := ⟨[.int .i64 w, .vsl 0 0 (l.map roE).length, .any, .any, .any, .int .i64 p, .any, .any, .any, .any, .any, .any, .any, .any, .any, .any, .any, .any, .any, .any, .any, .any, .any, .any, .any, .any, .any, .any, .any, .any, .any, .any, .any, .any, .any, .any, .any, .any, .any, .any, .any, .any, .any, .any, .any, .any, .any, .any, .any], [some ⟨false, 36, 4, true, l.map roE⟩]⟩
def rtM0 : Modes := ⟨[1, 1, 0, 0, 0, 2, 0, 0, 0, 0, 0, 0, 0, 0, 0, 0, 0, 0, 0, 0, 0, 0, 0, 0, 0, 0, 0, 0, 0, 0, 0, 0, 0, 0, 0, 0, 0, 0, 0, 0, 0, 0, 0, 0, 0, 0, 0, 0, 0], [], [], [], []⟩
def rtM : Modes := ⟨[1, 1, 0, 0, 0, 1, 0, 0, 0, 0, 0, 0, 0, 0, 0, 0, 0, 0, 0, 0, 0, 0, 0, 0, 0, 0, 0, 0, 0, 0, 0, 0, 0, 0, 0, 0, 0, 0, 0, 0, 0, 0, 0, 0, 0, 0, 0, 0, 0], [], [], [], []⟩
def rtM' : Modes := ⟨[1, 1, 0, 0, 2, 0, 0, 0, 0, 0, 0, 0, 0, 0, 0, 0, 0, 0, 0, 0, 0, 0, 0, 0, 0, 0, 0, 0, 0, 0, 0, 0, 0, 0, 0, 0, 0, 0, 0, 0, 0, 0, 0, 0, 0, 0, 0, 0, 0], [], [], [], []⟩
def rtI (l : List Ro) (w : Int) (p : Nat) : Prop := p ≤ l.length ∧ ∀ i, i < p → riR w (at' l i) = true ∧ (0 < i → cpP (at' l (i - 1)).p (at' l i).p < 0)
def rtH (l : List Ro) (w : Int) : List Hint := [.linv _ 0 (rtSt l w) (rtI l w) (fun p => l.length + 1 - p) rtM0 rtM rtM' (fun _ => [.fork [] [.fork [] []]]) fun p =>
  [.fork [.dy, .cell (roE (at' l p)), .fork [] [.fork [.nw, .dy, .cell (pfE (at' l (p - 1)).p), .dy, .cell (pfE (at' l p).p), .fork [] [.nw]] [.nw]]] []]]

def drSt (F : List Ro → List AV) (l : List Ro) (a b : BitVec 64) (k : Int) (p : Nat) : St :=
  ⟨[.vsl 0 0 (l.map roE).length, .any, .any, .ptr 1 0 0 true, .any, .vsl 2 0 (drR (l.take p) ⟨a, b, k⟩).length, .int .i64 p, .any, .any, .any, .any, .any, .any, .any, .any, .any, .any, .any, .any, .any, .any, .any, .any, .any, .any, .any, .any, .any], [some ⟨false, 36, 4, true, l.map roE⟩, some ⟨true, 34, 3, true, [.agg [.w64 a, .w64 b, .int .i64 k]]⟩, some ⟨true, 36, 4, true, F (drR (l.take p) ⟨a, b, k⟩)⟩]⟩
def drM0 : Modes := ⟨[1, 0, 0, 1, 0, 1, 2, 0, 0, 0, 0, 0, 0, 0, 0, 0, 0, 0, 0, 0, 0, 0, 0, 0, 0, 0, 0, 0], [], [], [], [(5, 36, 4)]⟩
def drM : Modes := ⟨[1, 0, 0, 1, 0, 1, 1, 0, 0, 0, 0, 0, 0, 0, 0, 0, 0, 0, 0, 0, 0, 0, 0, 0, 0, 0, 0, 0], [], [], [], []⟩
def drM' : Modes := ⟨[0, 0, 0, 0, 0, 1, 0, 0, 0, 0, 0, 0, 0, 0, 0, 0, 0, 0, 0, 0, 0, 0, 0, 0, 0, 0, 0, 0], [], [], [], []⟩
def drH (F : List Ro → List AV) (l : List Ro) (a b : BitVec 64) (k : Int) : List Hint := [.linv _ 0 (drSt F l a b k) (fun p => p ≤ l.length) (fun p => l.length + 1 - p) drM0 drM drM' (fun _ => []) fun p =>
  [.fork [.dy, .cell (pfE (at' l p).p), .fork [.dy, .cell (roE (at' l p)), .rows (F (drR (l.take (p + 1)) ⟨a, b, k⟩)), .nw] [.nw]] []]]

/-- A route of nothing, as it is laid. -/
def roZ : AV := .agg [.lit (.int .u64 0), .lit (.int .u64 0), .lit (.int .i64 0), .lit (.int .i64 0)]

def fdSt (l : List Ro) (a b : BitVec 64) (k : Int) (p : Nat) : St :=
  ⟨[.vsl 0 0 (l.map roE).length, .any, .any, .ptr 1 0 0 true, .ptr 2 0 0 true, .any, .int .i64 p, .any, .any, .any, .any, .any, .any, .any, .any, .any, .any, .any, .any, .any, .any, .any, .any, .any, .any], [some ⟨false, 36, 4, true, l.map roE⟩, some ⟨true, 34, 3, true, [.agg [.w64 a, .w64 b, .int .i64 k]]⟩, some ⟨true, 36, 4, true, [roZ]⟩]⟩
def fdM0 : Modes := ⟨[1, 0, 0, 1, 1, 0, 2, 0, 0, 0, 0, 0, 0, 0, 0, 0, 0, 0, 0, 0, 0, 0, 0, 0, 0], [], [], [], []⟩
def fdM : Modes := ⟨[1, 0, 0, 1, 1, 0, 1, 0, 0, 0, 0, 0, 0, 0, 0, 0, 0, 0, 0, 0, 0, 0, 0, 0, 0], [], [], [], []⟩
def fdM' : Modes := ⟨[0, 0, 0, 0, 1, 2, 0, 0, 0, 0, 0, 0, 0, 0, 0, 0, 0, 0, 0, 0, 0, 0, 0, 0, 0], [], [], [], []⟩
def fdI (l : List Ro) (a b : BitVec 64) (k : Int) (p : Nat) : Prop := p ≤ l.length ∧ ∀ i, i < p → (at' l i).p ≠ ⟨a, b, k⟩
def fdH (l : List Ro) (a b : BitVec 64) (k : Int) : List Hint := [.linv _ 0 (fdSt l a b k) (fdI l a b k) (fun p => l.length + 1 - p) fdM0 fdM fdM' (fun _ => []) fun p =>
  [.fork [.dy, .cell (pfE (at' l p).p), .fork [.dy, .cell (roE (at' l p))] [.nw]] []]]

def rrrF : List Arg → (Res → Prop) → Prop
  | [.v (.int .i64 w), .v (.agg [.w64 a, .w64 b, .int .i64 k, .int .i64 j])], R => R (.v (.bool (riR w ⟨⟨a, b, k⟩, j⟩)))
  | _, _ => False

noncomputable def rrrCs : List (FuncId × Sx.Spec) := [(60, genSpec [none, none] rightF)]

theorem rrr_run (w : Int) (a b : BitVec 64) (k j : Int) (r : AV) : run rrrCs Try.prog 49 [.int .i64 w, .agg [.w64 a, .w64 b, .int .i64 k, .int .i64 j]] [] [.fork [.fork [] []] []] (yields (.v r)) =
    ((rightB w a b k = true → (Decidable.decide (j ≥ (1 : Int)) = true → AV.bool (Decidable.decide (j ≤ (255 : Int))) = r) ∧ (Decidable.decide (j ≥ (1 : Int)) = false → AV.bool false = r)) ∧ (rightB w a b k = false → AV.bool false = r)) := by kernel_rfl

theorem rrrCs_ok : ∀ e ∈ rrrCs, SpecOK Try.prog e.1 e.2 := by
  intro e he
  simp only [rrrCs, List.mem_cons, List.not_mem_nil, or_false] at he
  rcases he with rfl
  · exact rright_ok

theorem rrr_ok : SpecOK Try.prog 49 (genSpec [none, none] rrrF) := by
  refine genSpec_ok (run_ok (l := rrrCs) rrrCs_ok mixed noNG) fun l R hF => ?_
  unfold rrrF at hF
  split at hF
  · rename_i w a b k j
    refine ⟨_, hF, rfl, [.fork [.fork [] []] []], ?_⟩
    show run rrrCs Try.prog _ [.int .i64 w, .agg [.w64 a, .w64 b, .int .i64 k, .int .i64 j]] [] _ _
    rw [rrr_run]
    refine ⟨fun h => ⟨fun h1 => ?_, fun h1 => ?_⟩, fun h => ?_⟩
    · rw [show riR w ⟨⟨a, b, k⟩, j⟩ = (rightB w a b k && (decide (j ≥ 1) && decide (j ≤ 255))) from rfl, h, h1]; rfl
    · rw [show riR w ⟨⟨a, b, k⟩, j⟩ = (rightB w a b k && (decide (j ≥ 1) && decide (j ≤ 255))) from rfl, h, h1]; rfl
    · rw [show riR w ⟨⟨a, b, k⟩, j⟩ = (rightB w a b k && (decide (j ≥ 1) && decide (j ≤ 255))) from rfl, h]; rfl
  · exact hF.elim


def rrtableF : List Arg → (Res → Prop) → Prop
  | [.v (.int .i64 w), .row r_l], R => r_l = (deR r_l).map roE ∧ (deR r_l).length ≤ 9223372036854775807 ∧ R (.v (.bool (tbR w (deR r_l))))
  | _, _ => False

noncomputable def rrtableCs : List (FuncId × Sx.Spec) := [(49, genSpec [none, none] rrrF),
  (50, genSpec [none, none] cmppF)]

theorem rrtable_run (w : Int) (l : List Ro) (r : AV) : run rrtableCs Try.prog 29 [.int .i64 w, .vsl 0 0 (l.map roE).length] [some ⟨false, (pRefR.getD (0, 0)).1, (pRefR.getD (0, 0)).2, true, (l.map roE)⟩] (rtH l w) (yields (.v r)) =
    ((St.mk [AV.int IntKind.i64 w, AV.vsl (0 : Nat) (0 : Nat) (List.length (List.map roE l)), AV.any, AV.any, AV.any, AV.int IntKind.i64 (0 : Int), AV.any, AV.any, AV.any, AV.any, AV.any, AV.any, AV.any, AV.any, AV.any, AV.any, AV.any, AV.any, AV.any, AV.any, AV.any, AV.any, AV.any, AV.any, AV.any, AV.any, AV.any, AV.any, AV.any, AV.any, AV.any, AV.any, AV.any, AV.any, AV.any, AV.any, AV.any, AV.any, AV.any, AV.any, AV.any, AV.any, AV.any, AV.any, AV.any, AV.any, AV.any, AV.any, AV.any] [some (Blk.mk false (nat_lit 36) (4 : Nat) true (List.map roE l))] = rtSt l w (0 : Nat) ∧ rtI l w (0 : Nat)) ∧ ∀ (p : Nat), rtI l w p → (Decidable.decide ((↑p : Int) < (↑(List.length (List.map roE l)) : Int)) = true → ((0 : Int) ≤ (↑p : Int) ∧ (↑p : Int) < (↑(List.length (List.map roE l)) : Int)) ∧ Blk.read Proofs.Try.prog (Blk.mk false (36 : TypeId) (4 : Nat) true (List.map roE l)) (36 : Nat) ((0 : Nat) + Int.toNat (↑p : Int)) (0 : Nat) = some (AV.agg [AV.w64 (Ro.p (at' l p)).1, AV.w64 (Ro.p (at' l p)).2, AV.int IntKind.i64 (Ro.p (at' l p)).3, AV.int IntKind.i64 (at' l p).2]) ∧ ((!riR w (Ro.mk (Pf.mk (Ro.p (at' l p)).1 (Ro.p (at' l p)).2 (Ro.p (at' l p)).3) (at' l p).2)) = true → AV.bool false = r) ∧ ((!riR w (Ro.mk (Pf.mk (Ro.p (at' l p)).1 (Ro.p (at' l p)).2 (Ro.p (at' l p)).3) (at' l p).2)) = false → (Decidable.decide ((↑p : Int) > (0 : Int)) = true → inRange IntKind.i64 ((↑p : Int) - (1 : Int)) ∧ ((0 : Int) ≤ (↑p : Int) - (1 : Int) ∧ (↑p : Int) - (1 : Int) < (↑(List.length (List.map roE l)) : Int)) ∧ Blk.read Proofs.Try.prog (Blk.mk false (36 : TypeId) (4 : Nat) true (List.map roE l)) (34 : Nat) ((0 : Nat) + Int.toNat ((↑p : Int) - (1 : Int))) ((0 : Nat) + (0 : Nat)) = some (AV.agg [AV.w64 (Ro.p (at' l (p - (1 : Nat)))).1, AV.w64 (Ro.p (at' l (p - (1 : Nat)))).2, AV.int IntKind.i64 (Ro.p (at' l (p - (1 : Nat)))).3]) ∧ ((0 : Int) ≤ (↑p : Int) ∧ (↑p : Int) < (↑(List.length (List.map roE l)) : Int)) ∧ Blk.read Proofs.Try.prog (Blk.mk false (36 : TypeId) (4 : Nat) true (List.map roE l)) (34 : Nat) ((0 : Nat) + Int.toNat (↑p : Int)) ((0 : Nat) + (0 : Nat)) = some (AV.agg [AV.w64 (Ro.p (at' l p)).1, AV.w64 (Ro.p (at' l p)).2, AV.int IntKind.i64 (Ro.p (at' l p)).3]) ∧ (Decidable.decide (cmpP (Ro.p (at' l (p - (1 : Nat)))).1 (Ro.p (at' l (p - (1 : Nat)))).2 (Ro.p (at' l (p - (1 : Nat)))).3 (Ro.p (at' l p)).1 (Ro.p (at' l p)).2 (Ro.p (at' l p)).3 ≥ (0 : Int)) = true → AV.bool false = r) ∧ (Decidable.decide (cmpP (Ro.p (at' l (p - (1 : Nat)))).1 (Ro.p (at' l (p - (1 : Nat)))).2 (Ro.p (at' l (p - (1 : Nat)))).3 (Ro.p (at' l p)).1 (Ro.p (at' l p)).2 (Ro.p (at' l p)).3 ≥ (0 : Int)) = false → inRange IntKind.i64 ((↑p : Int) + (1 : Int)) ∧ ∃ (p' : Nat), St.mk [AV.int IntKind.i64 w, AV.vsl (0 : Nat) (0 : Nat) (List.length (List.map roE l)), AV.any, AV.any, AV.any, AV.int IntKind.i64 ((↑p : Int) + (1 : Int)), AV.any, AV.any, AV.any, AV.any, AV.any, AV.any, AV.any, AV.any, AV.any, AV.any, AV.any, AV.any, AV.any, AV.any, AV.any, AV.any, AV.any, AV.any, AV.any, AV.any, AV.any, AV.any, AV.any, AV.any, AV.any, AV.any, AV.any, AV.any, AV.any, AV.any, AV.any, AV.any, AV.any, AV.any, AV.any, AV.any, AV.any, AV.any, AV.any, AV.any, AV.any, AV.any, AV.any] [some (Blk.mk false (36 : TypeId) (4 : Nat) true (List.map roE l))] = rtSt l w p' ∧ rtI l w p' ∧ List.length l + (1 : Nat) - p' < List.length l + (1 : Nat) - p)) ∧ (Decidable.decide ((↑p : Int) > (0 : Int)) = false → inRange IntKind.i64 ((↑p : Int) + (1 : Int)) ∧ ∃ (p' : Nat), St.mk [AV.int IntKind.i64 w, AV.vsl (0 : Nat) (0 : Nat) (List.length (List.map roE l)), AV.any, AV.any, AV.any, AV.int IntKind.i64 ((↑p : Int) + (1 : Int)), AV.any, AV.any, AV.any, AV.any, AV.any, AV.any, AV.any, AV.any, AV.any, AV.any, AV.any, AV.any, AV.any, AV.any, AV.any, AV.any, AV.any, AV.any, AV.any, AV.any, AV.any, AV.any, AV.any, AV.any, AV.any, AV.any, AV.any, AV.any, AV.any, AV.any, AV.any, AV.any, AV.any, AV.any, AV.any, AV.any, AV.any, AV.any, AV.any, AV.any, AV.any, AV.any, AV.any] [some (Blk.mk false (36 : TypeId) (4 : Nat) true (List.map roE l))] = rtSt l w p' ∧ rtI l w p' ∧ List.length l + (1 : Nat) - p' < List.length l + (1 : Nat) - p))) ∧ (Decidable.decide ((↑p : Int) < (↑(List.length (List.map roE l)) : Int)) = false → ((w == (32 : Int)) = true → AV.bool (Decidable.decide ((↑(List.length (List.map roE l)) : Int) ≤ (256 : Int))) = r) ∧ ((w == (32 : Int)) = false → ((w == (128 : Int)) = true → AV.bool (Decidable.decide ((↑(List.length (List.map roE l)) : Int) ≤ (256 : Int))) = r) ∧ ((w == (128 : Int)) = false → AV.bool false = r)))) := by kernel_rfl

theorem rrtableCs_ok : ∀ e ∈ rrtableCs, SpecOK Try.prog e.1 e.2 := by
  intro e he
  simp only [rrtableCs, List.mem_cons, List.not_mem_nil, or_false] at he
  rcases he with rfl | rfl
  · exact rrr_ok
  · exact rcmp_ok

theorem rrtable_ok : SpecOK Try.prog 29 (genSpec [none, pRefR] rrtableF) := by
  refine genSpec_ok (run_ok (l := rrtableCs) rrtableCs_ok mixed noNG) fun l R hF => ?_
  unfold rrtableF at hF
  split at hF
  · rename_i w r_l
    obtain ⟨hr_l, hl, hF⟩ := hF
    generalize deR r_l = l at hr_l hl hF
    subst hr_l
    refine ⟨_, hF, rfl, (rtH l w), ?_⟩
    show run rrtableCs Try.prog _ [.int .i64 w, .vsl 0 0 (l.map roE).length] [some ⟨false, (pRefR.getD (0, 0)).1, (pRefR.getD (0, 0)).2, true, (l.map roE)⟩] _ _
    rw [rrtable_run]
    refine ⟨⟨rfl, Nat.zero_le _, fun i hi => by omega⟩, ?_⟩
    rintro p ⟨h1, h2⟩
    refine ⟨fun hlt => ?_, fun hge => ?_⟩
    · have hp : p < l.length := by simp only [decide_eq_true_eq, List.length_map] at hlt; omega
      have B : 0 ≤ (p : Int) ∧ (p : Int) < ((l.map roE).length : Int) := by rw [List.length_map]; omega
      have nx : riR w (at' l p) = true → (0 < p → cpP (at' l (p - 1)).p (at' l p).p < 0) → inRange .i64 ((p : Int) + 1) ∧ ∃ p', rtSt l w (p + 1) = rtSt l w p' ∧ rtI l w p' ∧ l.length + 1 - p' < l.length + 1 - p := fun g1 g2 => ⟨inR (by omega) (by omega), p + 1, rfl, ⟨by omega, up h2 ⟨g1, g2⟩⟩, by omega⟩
      refine ⟨B, read_rows B.1 B.2 (rr_whole _), fun hr => ?_, fun hr => ⟨fun h0 => ?_, fun h0 => nx (by simpa using hr) fun h => ?_⟩⟩
      · have hr : riR w (at' l p) = false := by simpa using hr
        rw [notT tbR_def fun h => by have := h.2.2.1 p hp; rw [hr] at this; cases this]
      · have h0 : 0 < p := by simp only [decide_eq_true_eq] at h0; omega
        have e1 : ((p : Int) - 1).toNat = p - 1 := by omega
        refine ⟨inR (by omega) (by omega), ⟨by omega, by omega⟩, read_rows (by omega) (by omega) (by rw [e1]; exact rr_p _), B, read_rows B.1 B.2 (rr_p _), fun hc => ?_, fun hc => nx (by simpa using hr) fun _ => ?_⟩
        · have hc : cpP (at' l (p - 1)).p (at' l p).p ≥ 0 := of_decide_eq_true hc
          rw [notT tbR_def fun h => by have := h.2.2.2 p hp h0; omega]
        · have hc : ¬ cpP (at' l (p - 1)).p (at' l p).p ≥ 0 := of_decide_eq_false hc
          omega
      · simp only [decide_eq_false_iff_not] at h0; omega
    · have hp : p = l.length := by simp only [decide_eq_false_iff_not, List.length_map] at hge; omega
      subst hp
      have tb : (w = 32 ∨ w = 128) → tbR w l = decide (((l.map roE).length : Int) ≤ 256) := fun hw => by
        rw [Bool.eq_iff_iff, tbR_def, decide_eq_true_eq, List.length_map]
        exact ⟨fun h => by have := h.2.1; omega, fun h => ⟨hw, by omega, fun i hi => (h2 i hi).1, fun i hi => (h2 i hi).2⟩⟩
      refine ⟨fun hw => ?_, fun hw => ⟨fun hw2 => ?_, fun hw2 => ?_⟩⟩
      · rw [tb (.inl (by simpa using hw))]
      · rw [tb (.inr (by simpa using hw2))]
      · have a1 : w ≠ 32 := by simpa using hw
        have a2 : w ≠ 128 := by simpa using hw2
        rw [notT tbR_def fun h => by rcases h.1 with h | h <;> contradiction]
  · exact hF.elim


def rrdropF : List Arg → (Res → Prop) → Prop
  | [.row r_l, .v (.agg [.w64 a, .w64 b, .int .i64 k])], R => r_l = (deR r_l).map roE ∧ (deR r_l).length ≤ 1000000 ∧ R (.vrow 36 4 ((drR (deR r_l) ⟨a, b, k⟩).map roE))
  | _, _ => False

theorem rrdrop_run (l : List Ro) (a b : BitVec 64) (k : Int) (F : List Ro → List AV) (es : List AV) : run [] Try.prog 52 [.vsl 0 0 (l.map roE).length, .agg [.w64 a, .w64 b, .int .i64 k]] [some ⟨false, (pRefR.getD (0, 0)).1, (pRefR.getD (0, 0)).2, true, (l.map roE)⟩] (drH F l a b k) (yields (.vrow 36 4 es)) =
    ((St.mk [AV.vsl (0 : Nat) (0 : Nat) (List.length (List.map roE l)), AV.any, AV.any, AV.ptr ((0 : Nat) + (1 : Nat)) (0 : Nat) (0 : Nat) true, AV.any, AV.vsl (List.length [some (Blk.mk false (nat_lit 36) (4 : Nat) true (List.map roE l)), some (Blk.mk true (34 : Nat) (3 : Nat) true [AV.agg [AV.w64 a, AV.w64 b, AV.int IntKind.i64 k]])]) (0 : Nat) (0 : Nat), AV.int IntKind.i64 (0 : Int), AV.any, AV.any, AV.any, AV.any, AV.any, AV.any, AV.any, AV.any, AV.any, AV.any, AV.any, AV.any, AV.any, AV.any, AV.any, AV.any, AV.any, AV.any, AV.any, AV.any, AV.any] ([some (Blk.mk false (nat_lit 36) (4 : Nat) true (List.map roE l)), some (Blk.mk true (34 : Nat) (3 : Nat) true [AV.agg [AV.w64 a, AV.w64 b, AV.int IntKind.i64 k]])] ++ [some (Blk.mk true (36 : TypeId) (4 : Nat) true [])]) = drSt F l a b k (0 : Nat) ∧ Nat.le (0 : Nat) (List.length l)) ∧ ∀ (p : Nat), Nat.le p (List.length l) → (Decidable.decide ((↑p : Int) < (↑(List.length (List.map roE l)) : Int)) = true → ((0 : Int) ≤ (↑p : Int) ∧ (↑p : Int) < (↑(List.length (List.map roE l)) : Int)) ∧ Blk.read Proofs.Try.prog (Blk.mk false (36 : TypeId) (4 : Nat) true (List.map roE l)) (34 : Nat) ((0 : Nat) + Int.toNat (↑p : Int)) ((0 : Nat) + (0 : Nat)) = some (AV.agg [AV.w64 (Ro.p (at' l p)).1, AV.w64 (Ro.p (at' l p)).2, AV.int IntKind.i64 (Ro.p (at' l p)).3]) ∧ ((!((Ro.p (at' l p)).1 == a && (Ro.p (at' l p)).2 == b && (Ro.p (at' l p)).3 == k)) = true → ((0 : Int) ≤ (↑p : Int) ∧ (↑p : Int) < (↑(List.length (List.map roE l)) : Int)) ∧ Blk.read Proofs.Try.prog (Blk.mk false (36 : TypeId) (4 : Nat) true (List.map roE l)) (36 : Nat) ((0 : Nat) + Int.toNat (↑p : Int)) (0 : Nat) = some (AV.agg [AV.w64 (Ro.p (at' l p)).1, AV.w64 (Ro.p (at' l p)).2, AV.int IntKind.i64 (Ro.p (at' l p)).3, AV.int IntKind.i64 (at' l p).2]) ∧ ((List.length (drR (List.take p l) (Pf.mk a b k)) + (1 : Nat)) * (32 : Nat) ≤ (140737488355328 : Nat) ∧ List.length (drR (List.take p l) (Pf.mk a b k)) + (1 : Nat) ≤ (9223372036854775807 : Nat) ∧ (0 : Nat) + (1 : Nat) ≤ List.length [AV.agg [AV.w64 (Ro.p (at' l p)).1, AV.w64 (Ro.p (at' l p)).2, AV.int IntKind.i64 (Ro.p (at' l p)).3, AV.int IntKind.i64 (at' l p).2]] ∧ List.length (drR (List.take p l) (Pf.mk a b k)) ≤ List.length (F (drR (List.take p l) (Pf.mk a b k)))) ∧ List.take (List.length (drR (List.take p l) (Pf.mk a b k))) (F (drR (List.take p l) (Pf.mk a b k))) ++ [AV.agg [AV.w64 (Ro.p (at' l p)).1, AV.w64 (Ro.p (at' l p)).2, AV.int IntKind.i64 (Ro.p (at' l p)).3, AV.int IntKind.i64 (at' l p).2]] = F (drR (List.take (p + (1 : Nat)) l) (Pf.mk a b k)) ∧ inRange IntKind.i64 ((↑p : Int) + (1 : Int)) ∧ ∃ (p' : Nat), St.mk [AV.vsl (0 : Nat) (0 : Nat) (List.length (List.map roE l)), AV.any, AV.any, AV.ptr ((0 : Nat) + (1 : Nat)) (0 : Nat) (0 : Nat) true, AV.any, AV.vsl ((0 : Nat) + (1 : Nat) + (1 : Nat)) (0 : Nat) (List.length (drR (List.take p l) (Pf.mk a b k)) + (1 : Nat)), AV.int IntKind.i64 ((↑p : Int) + (1 : Int)), AV.any, AV.any, AV.any, AV.any, AV.any, AV.any, AV.any, AV.any, AV.any, AV.any, AV.any, AV.any, AV.any, AV.any, AV.any, AV.any, AV.any, AV.any, AV.any, AV.any, AV.any] [some (Blk.mk false (36 : TypeId) (4 : Nat) true (List.map roE l)), some (Blk.mk true (34 : TypeId) (3 : Nat) true [AV.agg [AV.w64 a, AV.w64 b, AV.int IntKind.i64 k]]), some (Blk.mk true (36 : Nat) (4 : Nat) true (F (drR (List.take (p + (1 : Nat)) l) (Pf.mk a b k))))] = drSt F l a b k p' ∧ Nat.le p' (List.length l) ∧ List.length l + (1 : Nat) - p' < List.length l + (1 : Nat) - p) ∧ ((!((Ro.p (at' l p)).1 == a && (Ro.p (at' l p)).2 == b && (Ro.p (at' l p)).3 == k)) = false → inRange IntKind.i64 ((↑p : Int) + (1 : Int)) ∧ ∃ (p' : Nat), St.mk [AV.vsl (0 : Nat) (0 : Nat) (List.length (List.map roE l)), AV.any, AV.any, AV.ptr ((0 : Nat) + (1 : Nat)) (0 : Nat) (0 : Nat) true, AV.any, AV.vsl ((0 : Nat) + (1 : Nat) + (1 : Nat)) (0 : Nat) (List.length (drR (List.take p l) (Pf.mk a b k))), AV.int IntKind.i64 ((↑p : Int) + (1 : Int)), AV.any, AV.any, AV.any, AV.any, AV.any, AV.any, AV.any, AV.any, AV.any, AV.any, AV.any, AV.any, AV.any, AV.any, AV.any, AV.any, AV.any, AV.any, AV.any, AV.any, AV.any] [some (Blk.mk false (36 : TypeId) (4 : Nat) true (List.map roE l)), some (Blk.mk true (34 : TypeId) (3 : Nat) true [AV.agg [AV.w64 a, AV.w64 b, AV.int IntKind.i64 k]]), some (Blk.mk true (36 : TypeId) (4 : Nat) true (F (drR (List.take p l) (Pf.mk a b k))))] = drSt F l a b k p' ∧ Nat.le p' (List.length l) ∧ List.length l + (1 : Nat) - p' < List.length l + (1 : Nat) - p)) ∧ (Decidable.decide ((↑p : Int) < (↑(List.length (List.map roE l)) : Int)) = false → List.length (drR (List.take p l) (Pf.mk a b k)) = List.length es ∧ some (Blk.mk true (36 : TypeId) (4 : Nat) true (F (drR (List.take p l) (Pf.mk a b k)))) = some (Blk.mk true (36 : TypeId) (4 : Nat) true es))) := by kernel_rfl

theorem rrdrop_ok : SpecOK Try.prog 52 (genSpec [pRefR, none] rrdropF) := by
  refine genSpec_ok none_ok fun l R hF => ?_
  unfold rrdropF at hF
  split at hF
  · rename_i r_l a b k
    obtain ⟨hr_l, hl, hF⟩ := hF
    generalize deR r_l = l at hr_l hl hF
    subst hr_l
    refine ⟨_, hF, trivial, (drH (List.map roE) l a b k), ?_⟩
    show run [] Try.prog _ [.vsl 0 0 (l.map roE).length, .agg [.w64 a, .w64 b, .int .i64 k]] [some ⟨false, (pRefR.getD (0, 0)).1, (pRefR.getD (0, 0)).2, true, (l.map roE)⟩] _ _
    rw [rrdrop_run]
    refine ⟨⟨rfl, Nat.zero_le _⟩, ?_⟩
    intro p hp0
    have hp0 : p ≤ l.length := hp0
    have hf : (drR (l.take p) ⟨a, b, k⟩).length ≤ 1000000 := Nat.le_trans (List.length_filter_le _ _) (by rw [List.length_take]; omega)
    refine ⟨fun hlt => ?_, fun hge => ?_⟩
    · have hp : p < l.length := by simp only [decide_eq_true_eq, List.length_map] at hlt; omega
      have B : 0 ≤ (p : Int) ∧ (p : Int) < ((l.map roE).length : Int) := by rw [List.length_map]; omega
      have hd : ((at' l p).p.a == a && (at' l p).p.b == b && (at' l p).p.len == k) = decide ((at' l p).p = ⟨a, b, k⟩) := eqPf _ a b k
      refine ⟨B, read_rows B.1 B.2 (rr_p _), fun hn => ?_, fun hn => ?_⟩
      · rw [hd] at hn
        have e : drR (l.take (p + 1)) ⟨a, b, k⟩ = drR (l.take p) ⟨a, b, k⟩ ++ [at' l p] := by rw [take_one hp, drR_snoc, if_pos (by simpa using hn)]
        refine ⟨B, read_rows B.1 B.2 (rr_whole _), ⟨by omega, by omega, by simp, by rw [List.length_map]; exact Nat.le_refl _⟩, ?_, inR (by omega) (by omega), p + 1, ?_, hp, by omega⟩
        · rw [e, List.map_append, List.take_of_length_le (by rw [List.length_map]; exact Nat.le_refl _)]; rfl
        · unfold drSt; rw [e, List.length_append]; rfl
      · rw [hd] at hn
        have e : drR (l.take (p + 1)) ⟨a, b, k⟩ = drR (l.take p) ⟨a, b, k⟩ := by rw [take_one hp, drR_snoc, if_neg (by simpa using hn)]
        exact ⟨inR (by omega) (by omega), p + 1, by unfold drSt; rw [e]; rfl, hp, by omega⟩
    · have hp : p = l.length := by simp only [decide_eq_false_iff_not, List.length_map] at hge; omega
      subst hp
      rw [List.take_length]
      exact ⟨by rw [List.length_map], rfl⟩
  · exact hF.elim


def rrfindF : List Arg → (Res → Prop) → Prop
  | [.row r_l, .v (.agg [.w64 a, .w64 b, .int .i64 k])], R => r_l = (deR r_l).map roE ∧ (deR r_l).length ≤ 9223372036854775807 ∧ R (.v (.tuple [.agg [.w64 (roO (fdR (deR r_l) ⟨a, b, k⟩)).p.a, .w64 (roO (fdR (deR r_l) ⟨a, b, k⟩)).p.b, .int .i64 (roO (fdR (deR r_l) ⟨a, b, k⟩)).p.len, .int .i64 (roO (fdR (deR r_l) ⟨a, b, k⟩)).act], .bool (fdR (deR r_l) ⟨a, b, k⟩).isSome]))
  | _, _ => False

theorem rrfind_run (l : List Ro) (a b : BitVec 64) (k : Int) (r : AV) : run [] Try.prog 13 [.vsl 0 0 (l.map roE).length, .agg [.w64 a, .w64 b, .int .i64 k]] [some ⟨false, (pRefR.getD (0, 0)).1, (pRefR.getD (0, 0)).2, true, (l.map roE)⟩] (fdH l a b k) (yields (.v r)) =
    ((St.mk [AV.vsl (0 : Nat) (0 : Nat) (List.length (List.map roE l)), AV.any, AV.any, AV.ptr ((0 : Nat) + (1 : Nat)) (0 : Nat) (0 : Nat) true, AV.ptr ((0 : Nat) + (1 : Nat) + (1 : Nat)) (0 : Nat) (0 : Nat) true, AV.any, AV.int IntKind.i64 (0 : Int), AV.any, AV.any, AV.any, AV.any, AV.any, AV.any, AV.any, AV.any, AV.any, AV.any, AV.any, AV.any, AV.any, AV.any, AV.any, AV.any, AV.any, AV.any] [some (Blk.mk false (nat_lit 36) (4 : Nat) true (List.map roE l)), some (Blk.mk true (34 : Nat) (3 : Nat) true [AV.agg [AV.w64 a, AV.w64 b, AV.int IntKind.i64 k]]), some (Blk.mk true (36 : Nat) (4 : Nat) true [AV.agg [AV.lit (Value.int IntKind.u64 (0 : Int)), AV.lit (Value.int IntKind.u64 (0 : Int)), AV.lit (Value.int IntKind.i64 (0 : Int)), AV.lit (Value.int IntKind.i64 (0 : Int))]])] = fdSt l a b k (0 : Nat) ∧ fdI l a b k (0 : Nat)) ∧ ∀ (p : Nat), fdI l a b k p → (Decidable.decide ((↑p : Int) < (↑(List.length (List.map roE l)) : Int)) = true → ((0 : Int) ≤ (↑p : Int) ∧ (↑p : Int) < (↑(List.length (List.map roE l)) : Int)) ∧ Blk.read Proofs.Try.prog (Blk.mk false (36 : TypeId) (4 : Nat) true (List.map roE l)) (34 : Nat) ((0 : Nat) + Int.toNat (↑p : Int)) ((0 : Nat) + (0 : Nat)) = some (AV.agg [AV.w64 (Ro.p (at' l p)).1, AV.w64 (Ro.p (at' l p)).2, AV.int IntKind.i64 (Ro.p (at' l p)).3]) ∧ (((Ro.p (at' l p)).1 == a && (Ro.p (at' l p)).2 == b && (Ro.p (at' l p)).3 == k) = true → ((0 : Int) ≤ (↑p : Int) ∧ (↑p : Int) < (↑(List.length (List.map roE l)) : Int)) ∧ Blk.read Proofs.Try.prog (Blk.mk false (36 : TypeId) (4 : Nat) true (List.map roE l)) (36 : Nat) ((0 : Nat) + Int.toNat (↑p : Int)) (0 : Nat) = some (AV.agg [AV.w64 (Ro.p (at' l p)).1, AV.w64 (Ro.p (at' l p)).2, AV.int IntKind.i64 (Ro.p (at' l p)).3, AV.int IntKind.i64 (at' l p).2]) ∧ AV.tuple [AV.agg [AV.w64 (Ro.p (at' l p)).1, AV.w64 (Ro.p (at' l p)).2, AV.int IntKind.i64 (Ro.p (at' l p)).3, AV.int IntKind.i64 (at' l p).2], AV.bool true] = r) ∧ (((Ro.p (at' l p)).1 == a && (Ro.p (at' l p)).2 == b && (Ro.p (at' l p)).3 == k) = false → inRange IntKind.i64 ((↑p : Int) + (1 : Int)) ∧ ∃ (p' : Nat), St.mk [AV.vsl (0 : Nat) (0 : Nat) (List.length (List.map roE l)), AV.any, AV.any, AV.ptr ((0 : Nat) + (1 : Nat)) (0 : Nat) (0 : Nat) true, AV.ptr ((0 : Nat) + (1 : Nat) + (1 : Nat)) (0 : Nat) (0 : Nat) true, AV.any, AV.int IntKind.i64 ((↑p : Int) + (1 : Int)), AV.any, AV.any, AV.any, AV.any, AV.any, AV.any, AV.any, AV.any, AV.any, AV.any, AV.any, AV.any, AV.any, AV.any, AV.any, AV.any, AV.any, AV.any] [some (Blk.mk false (36 : TypeId) (4 : Nat) true (List.map roE l)), some (Blk.mk true (34 : TypeId) (3 : Nat) true [AV.agg [AV.w64 a, AV.w64 b, AV.int IntKind.i64 k]]), some (Blk.mk true (36 : TypeId) (4 : Nat) true [AV.agg [AV.lit (Value.int IntKind.u64 (0 : Int)), AV.lit (Value.int IntKind.u64 (0 : Int)), AV.lit (Value.int IntKind.i64 (0 : Int)), AV.lit (Value.int IntKind.i64 (0 : Int))]])] = fdSt l a b k p' ∧ fdI l a b k p' ∧ List.length l + (1 : Nat) - p' < List.length l + (1 : Nat) - p)) ∧ (Decidable.decide ((↑p : Int) < (↑(List.length (List.map roE l)) : Int)) = false → AV.tuple [AV.agg [AV.w64 (BitVec.ofInt (64 : Nat) (0 : Int)), AV.w64 (BitVec.ofInt (64 : Nat) (0 : Int)), AV.int IntKind.i64 (0 : Int), AV.int IntKind.i64 (0 : Int)], AV.bool false] = r)) := by kernel_rfl

theorem rrfind_ok : SpecOK Try.prog 13 (genSpec [pRefR, none] rrfindF) := by
  refine genSpec_ok none_ok fun l R hF => ?_
  unfold rrfindF at hF
  split at hF
  · rename_i r_l a b k
    obtain ⟨hr_l, hl, hF⟩ := hF
    generalize deR r_l = l at hr_l hl hF
    subst hr_l
    refine ⟨_, hF, rfl, (fdH l a b k), ?_⟩
    show run [] Try.prog _ [.vsl 0 0 (l.map roE).length, .agg [.w64 a, .w64 b, .int .i64 k]] [some ⟨false, (pRefR.getD (0, 0)).1, (pRefR.getD (0, 0)).2, true, (l.map roE)⟩] _ _
    rw [rrfind_run]
    refine ⟨⟨rfl, Nat.zero_le _, fun i hi => by omega⟩, ?_⟩
    rintro p ⟨h1, h2⟩
    refine ⟨fun hlt => ?_, fun hge => ?_⟩
    · have hp : p < l.length := by simp only [decide_eq_true_eq, List.length_map] at hlt; omega
      have B : 0 ≤ (p : Int) ∧ (p : Int) < ((l.map roE).length : Int) := by rw [List.length_map]; omega
      have hd : ((at' l p).p.a == a && (at' l p).p.b == b && (at' l p).p.len == k) = decide ((at' l p).p = ⟨a, b, k⟩) := eqPf _ a b k
      refine ⟨B, read_rows B.1 B.2 (rr_p _), fun he => ⟨B, read_rows B.1 B.2 (rr_whole _), ?_⟩, fun he => ⟨inR (by omega) (by omega), p + 1, rfl, ⟨by omega, up h2 ?_⟩, by omega⟩⟩
      · rw [hd] at he
        rw [fdR_first hp (of_decide_eq_true he) h2]; rfl
      · rw [hd] at he
        exact of_decide_eq_false he
    · have hp : p = l.length := by simp only [decide_eq_false_iff_not, List.length_map] at hge; omega
      subst hp
      rw [fdR_nil h2]; rfl
  · exact hF.elim


end Go.Proofs.Ytfcjghgfanaipaa.L1
end

section
/-
  Layer 6: contracts of the document's Put, Best, Tell, Cover, Chain.
-/
namespace Go.Proofs.Ytfcjghgfanaipaa.L1
open Go.Sx Go.Sx.M

/-- Is one of the first n above a prefix? -/
def abv (l : List Ro) (q : Pf) (n : Nat) : Bool := decide (∃ i, i < n ∧ cpP (at' l i).p q > 0)

/-- What has been put so far. -/
def ptG (l : List Ro) (r : Ro) (n : Nat) : List Ro := if abv l r.p n then inR' (l.take n) r else l.take n

theorem inR_all {l : List Ro} {r : Ro} (h : ∀ y ∈ l, cpP y.p r.p ≤ 0) : inR' l r = l ++ [r] := by
  unfold inR'
  induction l with
  | nil => rfl
  | cons y l ih =>
    rw [List.takeWhile_cons_of_pos (by simpa using h y (by simp)), List.dropWhile_cons_of_pos (by simpa using h y (by simp)), List.cons_append, ih fun z hz => h z (by simp [hz])]
    rfl

theorem inR_app {l : List Ro} {r : Ro} (m : List Ro) (h : ∃ y ∈ l, cpP y.p r.p > 0) : inR' (l ++ m) r = inR' l r ++ m := by
  unfold inR'
  induction l with
  | nil => obtain ⟨y, hy, _⟩ := h; cases hy
  | cons y l ih =>
    by_cases hc : cpP y.p r.p ≤ 0
    · have h' : ∃ z ∈ l, cpP z.p r.p > 0 := by
        obtain ⟨z, hz, hp⟩ := h
        rcases List.mem_cons.1 hz with rfl | hz
        · omega
        · exact ⟨z, hz, hp⟩
      rw [List.cons_append, List.takeWhile_cons_of_pos (by simpa using hc), List.dropWhile_cons_of_pos (by simpa using hc), List.takeWhile_cons_of_pos (by simpa using hc), List.dropWhile_cons_of_pos (by simpa using hc), List.cons_append, ih h']
      rfl
    · rw [List.cons_append, List.takeWhile_cons_of_neg (by simpa using hc), List.dropWhile_cons_of_neg (by simpa using hc), List.takeWhile_cons_of_neg (by simpa using hc), List.dropWhile_cons_of_neg (by simpa using hc)]
      rfl

theorem inR_here {l : List Ro} {r x : Ro} (h : ∀ y ∈ l, cpP y.p r.p ≤ 0) (hx : cpP x.p r.p > 0) : inR' (l ++ [x]) r = l ++ [r] ++ [x] := by
  unfold inR'
  induction l with
  | nil =>
    rw [List.nil_append, List.takeWhile_cons_of_neg (by simp; omega), List.dropWhile_cons_of_neg (by simp; omega)]
    rfl
  | cons y l ih =>
    rw [List.cons_append, List.takeWhile_cons_of_pos (by simpa using h y (by simp)), List.dropWhile_cons_of_pos (by simpa using h y (by simp)), List.cons_append, ih fun z hz => h z (by simp [hz])]
    rfl

theorem abv_iff {l : List Ro} {q : Pf} {n : Nat} : abv l q n = true ↔ ∃ i, i < n ∧ cpP (at' l i).p q > 0 := by unfold abv; rw [decide_eq_true_eq]

theorem abv_false {l : List Ro} {q : Pf} {n : Nat} : abv l q n = false ↔ ∀ i, i < n → cpP (at' l i).p q ≤ 0 := by
  unfold abv
  rw [decide_eq_false_iff_not]
  exact ⟨fun h i hi => by
    rcases Int.lt_or_le 0 (cpP (at' l i).p q) with h' | h'
    · exact absurd ⟨i, hi, h'⟩ h
    · exact h', fun h ⟨i, hi, h'⟩ => by have := h i hi; omega⟩

theorem mem_take {l : List Ro} {n : Nat} {x : Ro} (hx : x ∈ l.take n) : ∃ i, i < n ∧ i < l.length ∧ at' l i = x := by
  obtain ⟨i, hi, rfl⟩ := mem_at hx
  rw [List.length_take] at hi
  refine ⟨i, by omega, by omega, ?_⟩
  unfold at'
  rw [List.getD_eq_getElem?_getD, List.getD_eq_getElem?_getD, List.getElem?_take, if_pos (by omega)]

theorem ptG_none {l : List Ro} {r : Ro} {n : Nat} (h : abv l r.p n = false) : ptG l r n = l.take n := by unfold ptG; rw [h]; rfl

theorem ptG_there {l : List Ro} {r : Ro} {n : Nat} (hn : n < l.length) (h : abv l r.p n = true) : ptG l r (n + 1) = ptG l r n ++ [at' l n] := by
  have h1 : abv l r.p (n + 1) = true := by
    obtain ⟨i, hi, hc⟩ := abv_iff.1 h
    exact abv_iff.2 ⟨i, by omega, hc⟩
  unfold ptG
  rw [h, h1, if_pos rfl, if_pos rfl, take_one hn, inR_app]
  obtain ⟨i, hi, hc⟩ := abv_iff.1 h
  refine ⟨at' l i, ?_, hc⟩
  have : (l.take n)[i]? = some (at' l i) := by rw [List.getElem?_take, if_pos hi, at_get (by omega)]
  exact List.mem_of_getElem? this

theorem ptG_here {l : List Ro} {r : Ro} {n : Nat} (hn : n < l.length) (h : abv l r.p n = false) (hc : cpP (at' l n).p r.p > 0) : ptG l r (n + 1) = ptG l r n ++ [r] ++ [at' l n] ∧ abv l r.p (n + 1) = true := by
  have h1 : abv l r.p (n + 1) = true := abv_iff.2 ⟨n, by omega, hc⟩
  refine ⟨?_, h1⟩
  rw [ptG_none h]
  unfold ptG
  rw [h1, if_pos rfl, take_one hn, inR_here (fun y hy => ?_) hc]
  obtain ⟨i, hi, _, rfl⟩ := mem_take hy
  exact abv_false.1 h i hi

theorem ptG_next {l : List Ro} {r : Ro} {n : Nat} (hn : n < l.length) (h : abv l r.p n = false) (hc : ¬ cpP (at' l n).p r.p > 0) : ptG l r (n + 1) = ptG l r n ++ [at' l n] ∧ abv l r.p (n + 1) = false := by
  have h1 : abv l r.p (n + 1) = false := abv_false.2 (up (abv_false.1 h) (by omega))
  exact ⟨by rw [ptG_none h, ptG_none h1, take_one hn], h1⟩

theorem ptG_end {l : List Ro} {r : Ro} : inR' l r = if abv l r.p l.length then ptG l r l.length else ptG l r l.length ++ [r] := by
  cases h : abv l r.p l.length with
  | true => unfold ptG; rw [h, if_pos rfl, if_pos rfl, List.take_length]
  | false =>
    rw [if_neg (by simp), ptG_none h, List.take_length, inR_all]
    intro y hy
    obtain ⟨i, hi, rfl⟩ := mem_at hy
    exact abv_false.1 h i hi

theorem ptG_length {l : List Ro} {r : Ro} {n : Nat} : (ptG l r n).length ≤ l.length + 1 := by
  unfold ptG
  split
  · rw [inR_length, List.length_take]; omega
  · rw [List.length_take]; omega

def ptSt (F : List Ro → List AV) (l m : List Ro) (r : Ro) (p : Nat) : St :=
  ⟨[.any, .any, .any, .ptr 1 0 0 true, .any, .vsl 3 0 (ptG m r p).length, .bool (abv m r.p p), .vsl 2 0 (m.map roE).length, .int .i64 p, .any, .any, .any, .any, .any, .any, .any, .any, .any, .any, .any, .any, .any, .any, .any, .any, .any, .any, .any, .any, .any, .any, .any, .any, .any, .any, .any, .any, .any, .any, .any, .any, .any, .any, .any, .any, .any, .any, .any, .any, .any], [some ⟨false, 36, 4, true, l.map roE⟩, some ⟨true, 36, 4, true, [roE r]⟩, some ⟨true, 36, 4, true, m.map roE⟩, some ⟨true, 36, 4, true, F (ptG m r p)⟩]⟩

/-- Those of the first rows that are best, of the lengths from n on. -/
def rbSt6 (l : List Ro) (c d : BitVec 64) (n : Int) : St :=
  ⟨[.vsl 0 0 (l.map roE).length, .any, .any, .ptr 1 0 0 true, .ptr 2 0 0 true, .any, .int .i64 n, .any, .any, .any, .any, .any, .any, .any, .any, .any, .any, .any, .any, .any, .any, .any, .any, .any, .any, .any, .any, .any, .any, .any, .any, .any, .any, .any, .any, .any, .any, .any, .any, .any], [some ⟨false, 36, 4, true, l.map roE⟩, some ⟨true, 24, 2, true, [.agg [.w64 c, .w64 d]]⟩, some ⟨true, 36, 4, true, [roZ]⟩]⟩
def rbSt7 (l : List Ro) (c d : BitVec 64) (n : Int) (i : Nat) : St :=
  ⟨[.vsl 0 0 (l.map roE).length, .any, .any, .ptr 1 0 0 true, .ptr 2 0 0 true, .any, .int .i64 n, .int .i64 i, .any, .any, .any, .any, .any, .any, .any, .any, .any, .any, .any, .any, .any, .any, .any, .any, .any, .any, .any, .any, .any, .any, .any, .any, .any, .any, .any, .any, .any, .any, .any, .any], [some ⟨false, 36, 4, true, l.map roE⟩, some ⟨true, 24, 2, true, [.agg [.w64 c, .w64 d]]⟩, some ⟨true, 36, 4, true, [roZ]⟩]⟩
def rbM60 : Modes := ⟨[1, 0, 0, 1, 1, 0, 2, 0, 0, 0, 0, 0, 0, 0, 0, 0, 0, 0, 0, 0, 0, 0, 0, 0, 0, 0, 0, 0, 0, 0, 0, 0, 0, 0, 0, 0, 0, 0, 0, 0], [], [], [], []⟩
def rbM6 : Modes := ⟨[1, 0, 0, 1, 1, 0, 1, 0, 0, 0, 0, 0, 0, 0, 0, 0, 0, 0, 0, 0, 0, 0, 0, 0, 0, 0, 0, 0, 0, 0, 0, 0, 0, 0, 0, 0, 0, 0, 0, 0], [], [], [], []⟩
def rbM6' : Modes := ⟨[0, 0, 0, 0, 1, 2, 0, 0, 0, 0, 0, 0, 0, 0, 0, 0, 0, 0, 0, 0, 0, 0, 0, 0, 0, 0, 0, 0, 0, 0, 0, 0, 0, 0, 0, 0, 0, 0, 0, 0], [], [], [], []⟩
def rbM70 : Modes := ⟨[1, 0, 0, 1, 1, 0, 1, 2, 0, 0, 0, 0, 0, 0, 0, 0, 0, 0, 0, 0, 0, 0, 0, 0, 0, 0, 0, 0, 0, 0, 0, 0, 0, 0, 0, 0, 0, 0, 0, 0], [], [], [], []⟩
def rbM7 : Modes := ⟨[1, 0, 0, 1, 1, 0, 1, 1, 0, 0, 0, 0, 0, 0, 0, 0, 0, 0, 0, 0, 0, 0, 0, 0, 0, 0, 0, 0, 0, 0, 0, 0, 0, 0, 0, 0, 0, 0, 0, 0], [], [], [], []⟩
def rbM7' : Modes := ⟨[1, 0, 0, 1, 1, 2, 1, 0, 0, 0, 0, 0, 0, 0, 0, 0, 0, 0, 0, 0, 0, 0, 0, 0, 0, 0, 0, 0, 0, 0, 0, 0, 0, 0, 0, 0, 0, 0, 0, 0], [], [], [], []⟩
def rbI6 (l : List Ro) (c d : BitVec 64) (n : Int) : Prop := -1 ≤ n ∧ n ≤ 128 ∧ ∀ x ∈ l, okR c d x = true → x.p.len ≤ n
def rbI7 (l : List Ro) (c d : BitVec 64) (n : Int) (i : Nat) : Prop := i ≤ l.length ∧ ∀ j, j < i → okR c d (at' l j) = true → (at' l j).p.len < n
def rbH6 (l : List Ro) (c d : BitVec 64) : List Hint := [.linv _ (128 : Int) (rbSt6 l c d) (rbI6 l c d) (fun n => (n + 1).toNat) rbM60 rbM6 rbM6' (fun _ => []) fun n =>
  [.fork [.linv _ 0 (rbSt7 l c d n) (rbI7 l c d n) (fun i => l.length + 1 - i) rbM70 rbM7 rbM7' (fun _ => [.nw]) fun i =>
    [.fork [.dy, .cell (.int .i64 (at' l i).p.len), .fork [.dy, .cell (pfE (at' l i).p), .fork [.dy, .cell (roE (at' l i))] [.nw]] [.nw]] []]] []]]

def ptM0 : Modes := ⟨[0, 0, 0, 1, 0, 1, 2, 1, 2, 0, 0, 0, 0, 0, 0, 0, 0, 0, 0, 0, 0, 0, 0, 0, 0, 0, 0, 0, 0, 0, 0, 0, 0, 0, 0, 0, 0, 0, 0, 0, 0, 0, 0, 0, 0, 0, 0, 0, 0, 0], [], [], [], [(5, 36, 4)]⟩
def ptM : Modes := ⟨[0, 0, 0, 1, 0, 1, 2, 1, 1, 0, 0, 0, 0, 0, 0, 0, 0, 0, 0, 0, 0, 0, 0, 0, 0, 0, 0, 0, 0, 0, 0, 0, 0, 0, 0, 0, 0, 0, 0, 0, 0, 0, 0, 0, 0, 0, 0, 0, 0, 0], [], [1, 3, 7, 5], [], []⟩
def ptM' : Modes := ⟨[0, 0, 0, 1, 0, 1, 2, 0, 0, 0, 0, 0, 0, 0, 0, 0, 0, 0, 0, 0, 0, 0, 0, 0, 0, 0, 0, 0, 0, 0, 0, 0, 0, 0, 0, 0, 0, 0, 0, 0, 0, 0, 0, 0, 0, 0, 0, 0, 0, 0], [], [], [], []⟩
def ptH (F : List Ro → List AV) (l : List Ro) (r : Ro) : List Hint := [.linv _ 0 (ptSt F l (drR l r.p) r) (fun p => p ≤ (drR l r.p).length) (fun p => (drR l r.p).length + 1 - p) ptM0 ptM ptM' (fun _ => [.fork [.rows (F (ptR l r))] []]) fun p =>
  [.fork [.fork [.dy, .cell (pfE (at' (drR l r.p) p).p), .fork [.rows (F (ptG (drR l r.p) r p ++ [r])), .dy, .cell (roE (at' (drR l r.p) p)), .rows (F (ptG (drR l r.p) r (p + 1))), .nw] [.dy, .cell (roE (at' (drR l r.p) p)), .rows (F (ptG (drR l r.p) r (p + 1))), .nw]] [.dy, .cell (roE (at' (drR l r.p) p)), .rows (F (ptG (drR l r.p) r (p + 1))), .nw]] []]]

def rrbestF : List Arg → (Res → Prop) → Prop
  | [.row r_l, .v (.agg [.w64 c, .w64 d])], R => r_l = (deR r_l).map roE ∧ (deR r_l).length ≤ 9223372036854775807 ∧ R (.v (.tuple [.agg [.w64 (roO (bsR (deR r_l) c d)).p.a, .w64 (roO (bsR (deR r_l) c d)).p.b, .int .i64 (roO (bsR (deR r_l) c d)).p.len, .int .i64 (roO (bsR (deR r_l) c d)).act], .bool (bsR (deR r_l) c d).isSome]))
  | _, _ => False

noncomputable def rrbestCs : List (FuncId × Sx.Spec) := [(53, genSpec [none, none] matchF)]

theorem rrbest_run (l : List Ro) (c d : BitVec 64) (r : AV) : run rrbestCs Try.prog 37 [.vsl 0 0 (l.map roE).length, .agg [.w64 c, .w64 d]] [some ⟨false, (pRefR.getD (0, 0)).1, (pRefR.getD (0, 0)).2, true, (l.map roE)⟩] (rbH6 l c d) (yields (.v r)) =
    ((St.mk [AV.vsl (0 : Nat) (0 : Nat) (List.length (List.map roE l)), AV.any, AV.any, AV.ptr ((0 : Nat) + (1 : Nat)) (0 : Nat) (0 : Nat) true, AV.ptr ((0 : Nat) + (1 : Nat) + (1 : Nat)) (0 : Nat) (0 : Nat) true, AV.any, AV.int IntKind.i64 (128 : Int), AV.any, AV.any, AV.any, AV.any, AV.any, AV.any, AV.any, AV.any, AV.any, AV.any, AV.any, AV.any, AV.any, AV.any, AV.any, AV.any, AV.any, AV.any, AV.any, AV.any, AV.any, AV.any, AV.any, AV.any, AV.any, AV.any, AV.any, AV.any, AV.any, AV.any, AV.any, AV.any, AV.any] [some (Blk.mk false (nat_lit 36) (4 : Nat) true (List.map roE l)), some (Blk.mk true (24 : Nat) (2 : Nat) true [AV.agg [AV.w64 c, AV.w64 d]]), some (Blk.mk true (36 : Nat) (4 : Nat) true [AV.agg [AV.lit (Value.int IntKind.u64 (0 : Int)), AV.lit (Value.int IntKind.u64 (0 : Int)), AV.lit (Value.int IntKind.i64 (0 : Int)), AV.lit (Value.int IntKind.i64 (0 : Int))]])] = rbSt6 l c d (128 : Int) ∧ rbI6 l c d (128 : Int)) ∧ ∀ (p : Int), rbI6 l c d p → (Decidable.decide (p ≥ (0 : Int)) = true → (St.mk [AV.vsl (0 : Nat) (0 : Nat) (List.length (List.map roE l)), AV.any, AV.any, AV.ptr ((0 : Nat) + (1 : Nat)) (0 : Nat) (0 : Nat) true, AV.ptr ((0 : Nat) + (1 : Nat) + (1 : Nat)) (0 : Nat) (0 : Nat) true, AV.any, AV.int IntKind.i64 p, AV.int IntKind.i64 (0 : Int), AV.any, AV.any, AV.any, AV.any, AV.any, AV.any, AV.any, AV.any, AV.any, AV.any, AV.any, AV.any, AV.any, AV.any, AV.any, AV.any, AV.any, AV.any, AV.any, AV.any, AV.any, AV.any, AV.any, AV.any, AV.any, AV.any, AV.any, AV.any, AV.any, AV.any, AV.any, AV.any] [some (Blk.mk false (36 : TypeId) (4 : Nat) true (List.map roE l)), some (Blk.mk true (24 : TypeId) (2 : Nat) true [AV.agg [AV.w64 c, AV.w64 d]]), some (Blk.mk true (36 : TypeId) (4 : Nat) true [AV.agg [AV.lit (Value.int IntKind.u64 (0 : Int)), AV.lit (Value.int IntKind.u64 (0 : Int)), AV.lit (Value.int IntKind.i64 (0 : Int)), AV.lit (Value.int IntKind.i64 (0 : Int))]])] = rbSt7 l c d p (0 : Nat) ∧ rbI7 l c d p (0 : Nat)) ∧ ∀ (p_1 : Nat), rbI7 l c d p p_1 → (Decidable.decide ((↑p_1 : Int) < (↑(List.length (List.map roE l)) : Int)) = true → ((0 : Int) ≤ (↑p_1 : Int) ∧ (↑p_1 : Int) < (↑(List.length (List.map roE l)) : Int)) ∧ Blk.read Proofs.Try.prog (Blk.mk false (36 : TypeId) (4 : Nat) true (List.map roE l)) (3 : Nat) ((0 : Nat) + Int.toNat (↑p_1 : Int)) ((0 : Nat) + (0 : Nat) + (2 : Nat)) = some (AV.int IntKind.i64 (Ro.p (at' l p_1)).3) ∧ (((Ro.p (at' l p_1)).3 == p) = true → ((0 : Int) ≤ (↑p_1 : Int) ∧ (↑p_1 : Int) < (↑(List.length (List.map roE l)) : Int)) ∧ Blk.read Proofs.Try.prog (Blk.mk false (36 : TypeId) (4 : Nat) true (List.map roE l)) (34 : Nat) ((0 : Nat) + Int.toNat (↑p_1 : Int)) ((0 : Nat) + (0 : Nat)) = some (AV.agg [AV.w64 (Ro.p (at' l p_1)).1, AV.w64 (Ro.p (at' l p_1)).2, AV.int IntKind.i64 (Ro.p (at' l p_1)).3]) ∧ (matchB (Ro.p (at' l p_1)).1 (Ro.p (at' l p_1)).2 (Ro.p (at' l p_1)).3 c d = true → ((0 : Int) ≤ (↑p_1 : Int) ∧ (↑p_1 : Int) < (↑(List.length (List.map roE l)) : Int)) ∧ Blk.read Proofs.Try.prog (Blk.mk false (36 : TypeId) (4 : Nat) true (List.map roE l)) (36 : Nat) ((0 : Nat) + Int.toNat (↑p_1 : Int)) (0 : Nat) = some (AV.agg [AV.w64 (Ro.p (at' l p_1)).1, AV.w64 (Ro.p (at' l p_1)).2, AV.int IntKind.i64 (Ro.p (at' l p_1)).3, AV.int IntKind.i64 (at' l p_1).2]) ∧ AV.tuple [AV.agg [AV.w64 (Ro.p (at' l p_1)).1, AV.w64 (Ro.p (at' l p_1)).2, AV.int IntKind.i64 (Ro.p (at' l p_1)).3, AV.int IntKind.i64 (at' l p_1).2], AV.bool true] = r) ∧ (matchB (Ro.p (at' l p_1)).1 (Ro.p (at' l p_1)).2 (Ro.p (at' l p_1)).3 c d = false → inRange IntKind.i64 ((↑p_1 : Int) + (1 : Int)) ∧ ∃ (p' : Nat), St.mk [AV.vsl (0 : Nat) (0 : Nat) (List.length (List.map roE l)), AV.any, AV.any, AV.ptr ((0 : Nat) + (1 : Nat)) (0 : Nat) (0 : Nat) true, AV.ptr ((0 : Nat) + (1 : Nat) + (1 : Nat)) (0 : Nat) (0 : Nat) true, AV.any, AV.int IntKind.i64 p, AV.int IntKind.i64 ((↑p_1 : Int) + (1 : Int)), AV.any, AV.any, AV.any, AV.any, AV.any, AV.any, AV.any, AV.any, AV.any, AV.any, AV.any, AV.any, AV.any, AV.any, AV.any, AV.any, AV.any, AV.any, AV.any, AV.any, AV.any, AV.any, AV.any, AV.any, AV.any, AV.any, AV.any, AV.any, AV.any, AV.any, AV.any, AV.any] [some (Blk.mk false (36 : TypeId) (4 : Nat) true (List.map roE l)), some (Blk.mk true (24 : TypeId) (2 : Nat) true [AV.agg [AV.w64 c, AV.w64 d]]), some (Blk.mk true (36 : TypeId) (4 : Nat) true [AV.agg [AV.lit (Value.int IntKind.u64 (0 : Int)), AV.lit (Value.int IntKind.u64 (0 : Int)), AV.lit (Value.int IntKind.i64 (0 : Int)), AV.lit (Value.int IntKind.i64 (0 : Int))]])] = rbSt7 l c d p p' ∧ rbI7 l c d p p' ∧ List.length l + (1 : Nat) - p' < List.length l + (1 : Nat) - p_1)) ∧ (((Ro.p (at' l p_1)).3 == p) = false → inRange IntKind.i64 ((↑p_1 : Int) + (1 : Int)) ∧ ∃ (p' : Nat), St.mk [AV.vsl (0 : Nat) (0 : Nat) (List.length (List.map roE l)), AV.any, AV.any, AV.ptr ((0 : Nat) + (1 : Nat)) (0 : Nat) (0 : Nat) true, AV.ptr ((0 : Nat) + (1 : Nat) + (1 : Nat)) (0 : Nat) (0 : Nat) true, AV.any, AV.int IntKind.i64 p, AV.int IntKind.i64 ((↑p_1 : Int) + (1 : Int)), AV.any, AV.any, AV.any, AV.any, AV.any, AV.any, AV.any, AV.any, AV.any, AV.any, AV.any, AV.any, AV.any, AV.any, AV.any, AV.any, AV.any, AV.any, AV.any, AV.any, AV.any, AV.any, AV.any, AV.any, AV.any, AV.any, AV.any, AV.any, AV.any, AV.any, AV.any, AV.any] [some (Blk.mk false (36 : TypeId) (4 : Nat) true (List.map roE l)), some (Blk.mk true (24 : TypeId) (2 : Nat) true [AV.agg [AV.w64 c, AV.w64 d]]), some (Blk.mk true (36 : TypeId) (4 : Nat) true [AV.agg [AV.lit (Value.int IntKind.u64 (0 : Int)), AV.lit (Value.int IntKind.u64 (0 : Int)), AV.lit (Value.int IntKind.i64 (0 : Int)), AV.lit (Value.int IntKind.i64 (0 : Int))]])] = rbSt7 l c d p p' ∧ rbI7 l c d p p' ∧ List.length l + (1 : Nat) - p' < List.length l + (1 : Nat) - p_1)) ∧ (Decidable.decide ((↑p_1 : Int) < (↑(List.length (List.map roE l)) : Int)) = false → inRange IntKind.i64 (p - (1 : Int)) ∧ ∃ (p' : Int), St.mk [AV.vsl (0 : Nat) (0 : Nat) (List.length (List.map roE l)), AV.any, AV.any, AV.ptr ((0 : Nat) + (1 : Nat)) (0 : Nat) (0 : Nat) true, AV.ptr ((0 : Nat) + (1 : Nat) + (1 : Nat)) (0 : Nat) (0 : Nat) true, AV.any, AV.int IntKind.i64 (p - (1 : Int)), AV.any, AV.any, AV.any, AV.any, AV.any, AV.any, AV.any, AV.any, AV.any, AV.any, AV.any, AV.any, AV.any, AV.any, AV.any, AV.any, AV.any, AV.any, AV.any, AV.any, AV.any, AV.any, AV.any, AV.any, AV.any, AV.any, AV.any, AV.any, AV.any, AV.any, AV.any, AV.any, AV.any] [some (Blk.mk false (36 : TypeId) (4 : Nat) true (List.map roE l)), some (Blk.mk true (24 : TypeId) (2 : Nat) true [AV.agg [AV.w64 c, AV.w64 d]]), some (Blk.mk true (36 : TypeId) (4 : Nat) true [AV.agg [AV.lit (Value.int IntKind.u64 (0 : Int)), AV.lit (Value.int IntKind.u64 (0 : Int)), AV.lit (Value.int IntKind.i64 (0 : Int)), AV.lit (Value.int IntKind.i64 (0 : Int))]])] = rbSt6 l c d p' ∧ rbI6 l c d p' ∧ Int.toNat (p' + (1 : Int)) < Int.toNat (p + (1 : Int)))) ∧ (Decidable.decide (p ≥ (0 : Int)) = false → AV.tuple [AV.agg [AV.w64 (BitVec.ofInt (64 : Nat) (0 : Int)), AV.w64 (BitVec.ofInt (64 : Nat) (0 : Int)), AV.int IntKind.i64 (0 : Int), AV.int IntKind.i64 (0 : Int)], AV.bool false] = r)) := by kernel_rfl

theorem rrbestCs_ok : ∀ e ∈ rrbestCs, SpecOK Try.prog e.1 e.2 := by
  intro e he
  simp only [rrbestCs, List.mem_cons, List.not_mem_nil, or_false] at he
  rcases he with rfl
  · exact rmatch_ok

theorem rrbest_ok : SpecOK Try.prog 37 (genSpec [pRefR, none] rrbestF) := by
  refine genSpec_ok (run_ok (l := rrbestCs) rrbestCs_ok mixed noNG) fun l R hF => ?_
  unfold rrbestF at hF
  split at hF
  · rename_i r_l c d
    obtain ⟨hr_l, hl, hF⟩ := hF
    generalize deR r_l = l at hr_l hl hF
    subst hr_l
    refine ⟨_, hF, rfl, (rbH6 l c d), ?_⟩
    show run rrbestCs Try.prog _ [.vsl 0 0 (l.map roE).length, .agg [.w64 c, .w64 d]] [some ⟨false, (pRefR.getD (0, 0)).1, (pRefR.getD (0, 0)).2, true, (l.map roE)⟩] _ _
    rw [rrbest_run]
    have ok : ∀ x : Ro, okR c d x = true ↔ mtP x.p c d = true ∧ 0 ≤ x.p.len ∧ x.p.len ≤ 128 := fun x => by unfold okR; simp
    refine ⟨⟨rfl, by omega, by omega, fun x _ h => ((ok x).1 h).2.2⟩, ?_⟩
    rintro n ⟨h1, h2, h3⟩
    refine ⟨fun hge => ⟨⟨rfl, Nat.zero_le _, fun j hj => by omega⟩, ?_⟩, fun hlt => ?_⟩
    · have hn : n ≥ 0 := of_decide_eq_true hge
      rintro i ⟨g1, g2⟩
      refine ⟨fun hlt => ?_, fun hge2 => ?_⟩
      · have hi : i < l.length := by simp only [decide_eq_true_eq, List.length_map] at hlt; omega
        have B : 0 ≤ (i : Int) ∧ (i : Int) < ((l.map roE).length : Int) := by rw [List.length_map]; omega
        have nx : (okR c d (at' l i) = true → (at' l i).p.len < n) → inRange .i64 ((i : Int) + 1) ∧ ∃ p', rbSt7 l c d n (i + 1) = rbSt7 l c d n p' ∧ rbI7 l c d n p' ∧ l.length + 1 - p' < l.length + 1 - i := fun h => ⟨inR (by omega) (by omega), i + 1, rfl, ⟨by omega, up g2 h⟩, by omega⟩
        refine ⟨B, read_rows B.1 B.2 (ro_len _), fun he => ⟨B, read_rows B.1 B.2 (rr_p _), fun hm => ⟨B, read_rows B.1 B.2 (rr_whole _), ?_⟩, fun hm => nx fun h => ?_⟩, fun he => nx fun h => ?_⟩
        · have he : (at' l i).p.len = n := by simpa using he
          have hb : bsR l c d = some (at' l i) := bsR_of hi ((ok _).2 ⟨hm, by omega, by omega⟩) fun j hj hj2 => ⟨by have := h3 _ (at_mem hj) hj2; unfold lnR; omega, fun hji => by have := g2 j hji hj2; unfold lnR; omega⟩
          rw [hb]; rfl
        · have := ((ok _).1 h).1
          rw [show mtP (at' l i).p c d = false from hm] at this; cases this
        · have a := h3 _ (at_mem hi) h
          have b : (at' l i).p.len ≠ n := by simpa using he
          omega
      · have hi : i = l.length := by simp only [decide_eq_false_iff_not, List.length_map] at hge2; omega
        subst hi
        refine ⟨inR (by omega) (by omega), n - 1, rfl, ⟨by omega, by omega, fun x hx hok => ?_⟩, by omega⟩
        obtain ⟨j, hj, rfl⟩ := mem_at hx
        have := g2 j hj hok
        omega
    · have hn : ¬ n ≥ 0 := of_decide_eq_false hlt
      rw [bsR_none fun j hj => ?_]
      · rfl
      · cases h : okR c d (at' l j) with
        | false => rfl
        | true =>
          have a := h3 _ (at_mem hj) h
          have b := ((ok _).1 h).2.1
          omega
  · exact hF.elim


def rrtellF : List Arg → (Res → Prop) → Prop
  | [.row r_l, .v (.agg [.w64 c, .w64 d])], R => r_l = (deR r_l).map roE ∧ (deR r_l).length ≤ 9223372036854775807 ∧ R (.v (.int .i64 (tlR (deR r_l) c d)))
  | _, _ => False

noncomputable def rrtellCs : List (FuncId × Sx.Spec) := [(37, genSpec [pRefR, none] rrbestF)]

theorem rrtell_run (l : List Ro) (c d : BitVec 64) (r : AV) : run rrtellCs Try.prog 20 [.vsl 0 0 (l.map roE).length, .agg [.w64 c, .w64 d]] [some ⟨false, (pRefR.getD (0, 0)).1, (pRefR.getD (0, 0)).2, true, (l.map roE)⟩] [.fork [] []] (yields (.v r)) =
    ((0 : Nat) + List.length (List.map roE l) ≤ List.length (List.map roE l) ∧ List.take (List.length (List.map roE l)) (List.drop (0 : Nat) (List.map roE l)) = List.map roE (deR (List.take (List.length (List.map roE l)) (List.drop (0 : Nat) (List.map roE l)))) ∧ List.length (deR (List.take (List.length (List.map roE l)) (List.drop (0 : Nat) (List.map roE l)))) ≤ (9223372036854775807 : Nat) ∧ ((!Option.isSome (bsR (deR (List.take (List.length (List.map roE l)) (List.drop (0 : Nat) (List.map roE l)))) c d)) = true → AV.int IntKind.i64 (0 : Int) = r) ∧ ((!Option.isSome (bsR (deR (List.take (List.length (List.map roE l)) (List.drop (0 : Nat) (List.map roE l)))) c d)) = false → AV.int IntKind.i64 (roO (bsR (deR (List.take (List.length (List.map roE l)) (List.drop (0 : Nat) (List.map roE l)))) c d)).2 = r)) := by kernel_rfl

theorem rrtellCs_ok : ∀ e ∈ rrtellCs, SpecOK Try.prog e.1 e.2 := by
  intro e he
  simp only [rrtellCs, List.mem_cons, List.not_mem_nil, or_false] at he
  rcases he with rfl
  · exact rrbest_ok

theorem rrtell_ok : SpecOK Try.prog 20 (genSpec [pRefR, none] rrtellF) := by
  refine genSpec_ok (run_ok (l := rrtellCs) rrtellCs_ok mixed noNG) fun l R hF => ?_
  unfold rrtellF at hF
  split at hF
  · rename_i r_l c d
    obtain ⟨hr_l, hl, hF⟩ := hF
    generalize deR r_l = l at hr_l hl hF
    subst hr_l
    refine ⟨_, hF, rfl, [.fork [] []], ?_⟩
    show run rrtellCs Try.prog _ [.vsl 0 0 (l.map roE).length, .agg [.w64 c, .w64 d]] [some ⟨false, (pRefR.getD (0, 0)).1, (pRefR.getD (0, 0)).2, true, (l.map roE)⟩] _ _
    rw [rrtell_run]
    simp only [whole_row, deR_map]
    refine ⟨by omega, by trivial, hl, fun h => ?_, fun h => ?_⟩
    · unfold tlR
      cases hb : bsR l c d with
      | none => rfl
      | some x => rw [hb] at h; cases h
    · unfold tlR
      cases hb : bsR l c d with
      | none => rw [hb] at h; cases h
      | some x => rfl
  · exact hF.elim


def rrputF : List Arg → (Res → Prop) → Prop
  | [.row r_l, .v (.agg [.w64 a, .w64 b, .int .i64 k, .int .i64 j])], R => r_l = (deR r_l).map roE ∧ (deR r_l).length ≤ 1000000 ∧ R (.vrow 36 4 ((ptR (deR r_l) ⟨⟨a, b, k⟩, j⟩).map roE))
  | _, _ => False

noncomputable def rrputCs : List (FuncId × Sx.Spec) := [(52, genSpec [pRefR, none] rrdropF),
  (50, genSpec [none, none] cmppF)]

theorem rrput_run (l : List Ro) (a b : BitVec 64) (k j : Int) (F : List Ro → List AV) (es : List AV) : run rrputCs Try.prog 32 [.vsl 0 0 (l.map roE).length, .agg [.w64 a, .w64 b, .int .i64 k, .int .i64 j]] [some ⟨false, (pRefR.getD (0, 0)).1, (pRefR.getD (0, 0)).2, true, (l.map roE)⟩] (ptH F l ⟨⟨a, b, k⟩, j⟩) (yields (.vrow 36 4 es)) =
    ((0 : Nat) + List.length (List.map roE l) ≤ List.length (List.map roE l) ∧ List.take (List.length (List.map roE l)) (List.drop (0 : Nat) (List.map roE l)) = List.map roE (deR (List.take (List.length (List.map roE l)) (List.drop (0 : Nat) (List.map roE l)))) ∧ List.length (deR (List.take (List.length (List.map roE l)) (List.drop (0 : Nat) (List.map roE l)))) ≤ (1000000 : Nat) ∧ (St.mk [AV.any, AV.any, AV.any, AV.ptr ((0 : Nat) + (1 : Nat)) (0 : Nat) (0 : Nat) true, AV.any, AV.vsl (List.length [some (Blk.mk false (nat_lit 36) (4 : Nat) true (List.map roE l)), some (Blk.mk true (36 : Nat) (4 : Nat) true [AV.agg [AV.w64 a, AV.w64 b, AV.int IntKind.i64 k, AV.int IntKind.i64 j]]), some (Blk.mk true (36 : TypeId) (4 : Nat) true (List.map roE (drR (deR (List.take (List.length (List.map roE l)) (List.drop (0 : Nat) (List.map roE l)))) (Pf.mk a b k))))]) (0 : Nat) (0 : Nat), AV.bool false, AV.vsl ((0 : Nat) + (1 : Nat) + (1 : Nat)) (0 : Nat) (List.length (List.map roE (drR (deR (List.take (List.length (List.map roE l)) (List.drop (0 : Nat) (List.map roE l)))) (Pf.mk a b k)))), AV.int IntKind.i64 (0 : Int), AV.any, AV.any, AV.any, AV.any, AV.any, AV.any, AV.any, AV.any, AV.any, AV.any, AV.any, AV.any, AV.any, AV.any, AV.any, AV.any, AV.any, AV.any, AV.any, AV.any, AV.any, AV.any, AV.any, AV.any, AV.any, AV.any, AV.any, AV.any, AV.any, AV.any, AV.any, AV.any, AV.any, AV.any, AV.any, AV.any, AV.any, AV.any, AV.any, AV.any, AV.any] ([some (Blk.mk false (nat_lit 36) (4 : Nat) true (List.map roE l)), some (Blk.mk true (36 : Nat) (4 : Nat) true [AV.agg [AV.w64 a, AV.w64 b, AV.int IntKind.i64 k, AV.int IntKind.i64 j]]), some (Blk.mk true (36 : TypeId) (4 : Nat) true (List.map roE (drR (deR (List.take (List.length (List.map roE l)) (List.drop (0 : Nat) (List.map roE l)))) (Pf.mk a b k))))] ++ [some (Blk.mk true (36 : TypeId) (4 : Nat) true [])]) = ptSt F l (drR l (Pf.mk a b k)) (Ro.mk (Pf.mk a b k) j) (0 : Nat) ∧ Nat.le (0 : Nat) (List.length (drR l (Pf.mk a b k)))) ∧ ∀ (p : Nat), Nat.le p (List.length (drR l (Pf.mk a b k))) → (Decidable.decide ((↑p : Int) < (↑(List.length (List.map roE (drR l (Pf.mk a b k)))) : Int)) = true → ((!abv (drR l (Pf.mk a b k)) (Pf.mk a b k) p) = true → ((0 : Int) ≤ (↑p : Int) ∧ (↑p : Int) < (↑(List.length (List.map roE (drR l (Pf.mk a b k)))) : Int)) ∧ Blk.read Proofs.Try.prog (Blk.mk true (36 : TypeId) (4 : Nat) true (List.map roE (drR l (Pf.mk a b k)))) (34 : Nat) ((0 : Nat) + Int.toNat (↑p : Int)) ((0 : Nat) + (0 : Nat)) = some (AV.agg [AV.w64 (Ro.p (at' (drR l (Ro.p (Ro.mk (Pf.mk a b k) j))) p)).1, AV.w64 (Ro.p (at' (drR l (Ro.p (Ro.mk (Pf.mk a b k) j))) p)).2, AV.int IntKind.i64 (Ro.p (at' (drR l (Ro.p (Ro.mk (Pf.mk a b k) j))) p)).3]) ∧ (Decidable.decide (cmpP (Ro.p (at' (drR l (Ro.p (Ro.mk (Pf.mk a b k) j))) p)).1 (Ro.p (at' (drR l (Ro.p (Ro.mk (Pf.mk a b k) j))) p)).2 (Ro.p (at' (drR l (Ro.p (Ro.mk (Pf.mk a b k) j))) p)).3 a b k > (0 : Int)) = true → ((List.length (ptG (drR l (Pf.mk a b k)) (Ro.mk (Pf.mk a b k) j) p) + (1 : Nat)) * (32 : Nat) ≤ (140737488355328 : Nat) ∧ List.length (ptG (drR l (Pf.mk a b k)) (Ro.mk (Pf.mk a b k) j) p) + (1 : Nat) ≤ (9223372036854775807 : Nat) ∧ (0 : Nat) + (1 : Nat) ≤ List.length [AV.agg [AV.w64 a, AV.w64 b, AV.int IntKind.i64 k, AV.int IntKind.i64 j]] ∧ List.length (ptG (drR l (Pf.mk a b k)) (Ro.mk (Pf.mk a b k) j) p) ≤ List.length (F (ptG (drR l (Pf.mk a b k)) (Ro.mk (Pf.mk a b k) j) p))) ∧ List.take (List.length (ptG (drR l (Pf.mk a b k)) (Ro.mk (Pf.mk a b k) j) p)) (F (ptG (drR l (Pf.mk a b k)) (Ro.mk (Pf.mk a b k) j) p)) ++ [AV.agg [AV.w64 a, AV.w64 b, AV.int IntKind.i64 k, AV.int IntKind.i64 j]] = F (ptG (drR l (Pf.mk a b k)) (Ro.mk (Pf.mk a b k) j) p ++ [Ro.mk (Pf.mk a b k) j]) ∧ ((0 : Int) ≤ (↑p : Int) ∧ (↑p : Int) < (↑(List.length (List.map roE (drR l (Pf.mk a b k)))) : Int)) ∧ Blk.read Proofs.Try.prog (Blk.mk true (36 : TypeId) (4 : Nat) true (List.map roE (drR l (Pf.mk a b k)))) (36 : Nat) ((0 : Nat) + Int.toNat (↑p : Int)) (0 : Nat) = some (AV.agg [AV.w64 (Ro.p (at' (drR l (Ro.p (Ro.mk (Pf.mk a b k) j))) p)).1, AV.w64 (Ro.p (at' (drR l (Ro.p (Ro.mk (Pf.mk a b k) j))) p)).2, AV.int IntKind.i64 (Ro.p (at' (drR l (Ro.p (Ro.mk (Pf.mk a b k) j))) p)).3, AV.int IntKind.i64 (at' (drR l (Ro.p (Ro.mk (Pf.mk a b k) j))) p).2]) ∧ ((List.length (ptG (drR l (Pf.mk a b k)) (Ro.mk (Pf.mk a b k) j) p) + (1 : Nat) + (1 : Nat)) * (32 : Nat) ≤ (140737488355328 : Nat) ∧ List.length (ptG (drR l (Pf.mk a b k)) (Ro.mk (Pf.mk a b k) j) p) + (1 : Nat) + (1 : Nat) ≤ (9223372036854775807 : Nat) ∧ (0 : Nat) + (1 : Nat) ≤ List.length [AV.agg [AV.w64 (Ro.p (at' (drR l (Ro.p (Ro.mk (Pf.mk a b k) j))) p)).1, AV.w64 (Ro.p (at' (drR l (Ro.p (Ro.mk (Pf.mk a b k) j))) p)).2, AV.int IntKind.i64 (Ro.p (at' (drR l (Ro.p (Ro.mk (Pf.mk a b k) j))) p)).3, AV.int IntKind.i64 (at' (drR l (Ro.p (Ro.mk (Pf.mk a b k) j))) p).2]] ∧ List.length (ptG (drR l (Pf.mk a b k)) (Ro.mk (Pf.mk a b k) j) p) + (1 : Nat) ≤ List.length (F (ptG (drR l (Pf.mk a b k)) (Ro.mk (Pf.mk a b k) j) p ++ [Ro.mk (Pf.mk a b k) j]))) ∧ List.take (List.length (ptG (drR l (Pf.mk a b k)) (Ro.mk (Pf.mk a b k) j) p) + (1 : Nat)) (F (ptG (drR l (Pf.mk a b k)) (Ro.mk (Pf.mk a b k) j) p ++ [Ro.mk (Pf.mk a b k) j])) ++ [AV.agg [AV.w64 (Ro.p (at' (drR l (Ro.p (Ro.mk (Pf.mk a b k) j))) p)).1, AV.w64 (Ro.p (at' (drR l (Ro.p (Ro.mk (Pf.mk a b k) j))) p)).2, AV.int IntKind.i64 (Ro.p (at' (drR l (Ro.p (Ro.mk (Pf.mk a b k) j))) p)).3, AV.int IntKind.i64 (at' (drR l (Ro.p (Ro.mk (Pf.mk a b k) j))) p).2]] = F (ptG (drR l (Pf.mk a b k)) (Ro.mk (Pf.mk a b k) j) (p + (1 : Nat))) ∧ inRange IntKind.i64 ((↑p : Int) + (1 : Int)) ∧ ∃ (p' : Nat), St.mk [AV.any, AV.any, AV.any, AV.ptr ((0 : Nat) + (1 : Nat)) (0 : Nat) (0 : Nat) true, AV.any, AV.vsl ((0 : Nat) + (1 : Nat) + (1 : Nat) + (1 : Nat)) (0 : Nat) (List.length (ptG (drR l (Pf.mk a b k)) (Ro.mk (Pf.mk a b k) j) p) + (1 : Nat) + (1 : Nat)), AV.bool true, AV.vsl ((0 : Nat) + (1 : Nat) + (1 : Nat)) (0 : Nat) (List.length (List.map roE (drR l (Pf.mk a b k)))), AV.int IntKind.i64 ((↑p : Int) + (1 : Int)), AV.any, AV.any, AV.any, AV.any, AV.any, AV.any, AV.any, AV.any, AV.any, AV.any, AV.any, AV.any, AV.any, AV.any, AV.any, AV.any, AV.any, AV.any, AV.any, AV.any, AV.any, AV.any, AV.any, AV.any, AV.any, AV.any, AV.any, AV.any, AV.any, AV.any, AV.any, AV.any, AV.any, AV.any, AV.any, AV.any, AV.any, AV.any, AV.any, AV.any, AV.any] [some (Blk.mk false (36 : TypeId) (4 : Nat) true (List.map roE l)), some (Blk.mk true (36 : TypeId) (4 : Nat) true [AV.agg [AV.w64 a, AV.w64 b, AV.int IntKind.i64 k, AV.int IntKind.i64 j]]), some (Blk.mk true (36 : TypeId) (4 : Nat) true (List.map roE (drR l (Pf.mk a b k)))), some (Blk.mk true (36 : Nat) (4 : Nat) true (F (ptG (drR l (Pf.mk a b k)) (Ro.mk (Pf.mk a b k) j) (p + (1 : Nat)))))] = ptSt F l (drR l (Pf.mk a b k)) (Ro.mk (Pf.mk a b k) j) p' ∧ Nat.le p' (List.length (drR l (Pf.mk a b k))) ∧ List.length (drR l (Pf.mk a b k)) + (1 : Nat) - p' < List.length (drR l (Pf.mk a b k)) + (1 : Nat) - p) ∧ (Decidable.decide (cmpP (Ro.p (at' (drR l (Ro.p (Ro.mk (Pf.mk a b k) j))) p)).1 (Ro.p (at' (drR l (Ro.p (Ro.mk (Pf.mk a b k) j))) p)).2 (Ro.p (at' (drR l (Ro.p (Ro.mk (Pf.mk a b k) j))) p)).3 a b k > (0 : Int)) = false → ((0 : Int) ≤ (↑p : Int) ∧ (↑p : Int) < (↑(List.length (List.map roE (drR l (Pf.mk a b k)))) : Int)) ∧ Blk.read Proofs.Try.prog (Blk.mk true (36 : TypeId) (4 : Nat) true (List.map roE (drR l (Pf.mk a b k)))) (36 : Nat) ((0 : Nat) + Int.toNat (↑p : Int)) (0 : Nat) = some (AV.agg [AV.w64 (Ro.p (at' (drR l (Ro.p (Ro.mk (Pf.mk a b k) j))) p)).1, AV.w64 (Ro.p (at' (drR l (Ro.p (Ro.mk (Pf.mk a b k) j))) p)).2, AV.int IntKind.i64 (Ro.p (at' (drR l (Ro.p (Ro.mk (Pf.mk a b k) j))) p)).3, AV.int IntKind.i64 (at' (drR l (Ro.p (Ro.mk (Pf.mk a b k) j))) p).2]) ∧ ((List.length (ptG (drR l (Pf.mk a b k)) (Ro.mk (Pf.mk a b k) j) p) + (1 : Nat)) * (32 : Nat) ≤ (140737488355328 : Nat) ∧ List.length (ptG (drR l (Pf.mk a b k)) (Ro.mk (Pf.mk a b k) j) p) + (1 : Nat) ≤ (9223372036854775807 : Nat) ∧ (0 : Nat) + (1 : Nat) ≤ List.length [AV.agg [AV.w64 (Ro.p (at' (drR l (Ro.p (Ro.mk (Pf.mk a b k) j))) p)).1, AV.w64 (Ro.p (at' (drR l (Ro.p (Ro.mk (Pf.mk a b k) j))) p)).2, AV.int IntKind.i64 (Ro.p (at' (drR l (Ro.p (Ro.mk (Pf.mk a b k) j))) p)).3, AV.int IntKind.i64 (at' (drR l (Ro.p (Ro.mk (Pf.mk a b k) j))) p).2]] ∧ List.length (ptG (drR l (Pf.mk a b k)) (Ro.mk (Pf.mk a b k) j) p) ≤ List.length (F (ptG (drR l (Pf.mk a b k)) (Ro.mk (Pf.mk a b k) j) p))) ∧ List.take (List.length (ptG (drR l (Pf.mk a b k)) (Ro.mk (Pf.mk a b k) j) p)) (F (ptG (drR l (Pf.mk a b k)) (Ro.mk (Pf.mk a b k) j) p)) ++ [AV.agg [AV.w64 (Ro.p (at' (drR l (Ro.p (Ro.mk (Pf.mk a b k) j))) p)).1, AV.w64 (Ro.p (at' (drR l (Ro.p (Ro.mk (Pf.mk a b k) j))) p)).2, AV.int IntKind.i64 (Ro.p (at' (drR l (Ro.p (Ro.mk (Pf.mk a b k) j))) p)).3, AV.int IntKind.i64 (at' (drR l (Ro.p (Ro.mk (Pf.mk a b k) j))) p).2]] = F (ptG (drR l (Pf.mk a b k)) (Ro.mk (Pf.mk a b k) j) (p + (1 : Nat))) ∧ inRange IntKind.i64 ((↑p : Int) + (1 : Int)) ∧ ∃ (p' : Nat), St.mk [AV.any, AV.any, AV.any, AV.ptr ((0 : Nat) + (1 : Nat)) (0 : Nat) (0 : Nat) true, AV.any, AV.vsl ((0 : Nat) + (1 : Nat) + (1 : Nat) + (1 : Nat)) (0 : Nat) (List.length (ptG (drR l (Pf.mk a b k)) (Ro.mk (Pf.mk a b k) j) p) + (1 : Nat)), AV.bool (abv (drR l (Pf.mk a b k)) (Pf.mk a b k) p), AV.vsl ((0 : Nat) + (1 : Nat) + (1 : Nat)) (0 : Nat) (List.length (List.map roE (drR l (Pf.mk a b k)))), AV.int IntKind.i64 ((↑p : Int) + (1 : Int)), AV.any, AV.any, AV.any, AV.any, AV.any, AV.any, AV.any, AV.any, AV.any, AV.any, AV.any, AV.any, AV.any, AV.any, AV.any, AV.any, AV.any, AV.any, AV.any, AV.any, AV.any, AV.any, AV.any, AV.any, AV.any, AV.any, AV.any, AV.any, AV.any, AV.any, AV.any, AV.any, AV.any, AV.any, AV.any, AV.any, AV.any, AV.any, AV.any, AV.any, AV.any] [some (Blk.mk false (36 : TypeId) (4 : Nat) true (List.map roE l)), some (Blk.mk true (36 : TypeId) (4 : Nat) true [AV.agg [AV.w64 a, AV.w64 b, AV.int IntKind.i64 k, AV.int IntKind.i64 j]]), some (Blk.mk true (36 : TypeId) (4 : Nat) true (List.map roE (drR l (Pf.mk a b k)))), some (Blk.mk true (36 : Nat) (4 : Nat) true (F (ptG (drR l (Pf.mk a b k)) (Ro.mk (Pf.mk a b k) j) (p + (1 : Nat)))))] = ptSt F l (drR l (Pf.mk a b k)) (Ro.mk (Pf.mk a b k) j) p' ∧ Nat.le p' (List.length (drR l (Pf.mk a b k))) ∧ List.length (drR l (Pf.mk a b k)) + (1 : Nat) - p' < List.length (drR l (Pf.mk a b k)) + (1 : Nat) - p)) ∧ ((!abv (drR l (Pf.mk a b k)) (Pf.mk a b k) p) = false → ((0 : Int) ≤ (↑p : Int) ∧ (↑p : Int) < (↑(List.length (List.map roE (drR l (Pf.mk a b k)))) : Int)) ∧ Blk.read Proofs.Try.prog (Blk.mk true (36 : TypeId) (4 : Nat) true (List.map roE (drR l (Pf.mk a b k)))) (36 : Nat) ((0 : Nat) + Int.toNat (↑p : Int)) (0 : Nat) = some (AV.agg [AV.w64 (Ro.p (at' (drR l (Ro.p (Ro.mk (Pf.mk a b k) j))) p)).1, AV.w64 (Ro.p (at' (drR l (Ro.p (Ro.mk (Pf.mk a b k) j))) p)).2, AV.int IntKind.i64 (Ro.p (at' (drR l (Ro.p (Ro.mk (Pf.mk a b k) j))) p)).3, AV.int IntKind.i64 (at' (drR l (Ro.p (Ro.mk (Pf.mk a b k) j))) p).2]) ∧ ((List.length (ptG (drR l (Pf.mk a b k)) (Ro.mk (Pf.mk a b k) j) p) + (1 : Nat)) * (32 : Nat) ≤ (140737488355328 : Nat) ∧ List.length (ptG (drR l (Pf.mk a b k)) (Ro.mk (Pf.mk a b k) j) p) + (1 : Nat) ≤ (9223372036854775807 : Nat) ∧ (0 : Nat) + (1 : Nat) ≤ List.length [AV.agg [AV.w64 (Ro.p (at' (drR l (Ro.p (Ro.mk (Pf.mk a b k) j))) p)).1, AV.w64 (Ro.p (at' (drR l (Ro.p (Ro.mk (Pf.mk a b k) j))) p)).2, AV.int IntKind.i64 (Ro.p (at' (drR l (Ro.p (Ro.mk (Pf.mk a b k) j))) p)).3, AV.int IntKind.i64 (at' (drR l (Ro.p (Ro.mk (Pf.mk a b k) j))) p).2]] ∧ List.length (ptG (drR l (Pf.mk a b k)) (Ro.mk (Pf.mk a b k) j) p) ≤ List.length (F (ptG (drR l (Pf.mk a b k)) (Ro.mk (Pf.mk a b k) j) p))) ∧ List.take (List.length (ptG (drR l (Pf.mk a b k)) (Ro.mk (Pf.mk a b k) j) p)) (F (ptG (drR l (Pf.mk a b k)) (Ro.mk (Pf.mk a b k) j) p)) ++ [AV.agg [AV.w64 (Ro.p (at' (drR l (Ro.p (Ro.mk (Pf.mk a b k) j))) p)).1, AV.w64 (Ro.p (at' (drR l (Ro.p (Ro.mk (Pf.mk a b k) j))) p)).2, AV.int IntKind.i64 (Ro.p (at' (drR l (Ro.p (Ro.mk (Pf.mk a b k) j))) p)).3, AV.int IntKind.i64 (at' (drR l (Ro.p (Ro.mk (Pf.mk a b k) j))) p).2]] = F (ptG (drR l (Pf.mk a b k)) (Ro.mk (Pf.mk a b k) j) (p + (1 : Nat))) ∧ inRange IntKind.i64 ((↑p : Int) + (1 : Int)) ∧ ∃ (p' : Nat), St.mk [AV.any, AV.any, AV.any, AV.ptr ((0 : Nat) + (1 : Nat)) (0 : Nat) (0 : Nat) true, AV.any, AV.vsl ((0 : Nat) + (1 : Nat) + (1 : Nat) + (1 : Nat)) (0 : Nat) (List.length (ptG (drR l (Pf.mk a b k)) (Ro.mk (Pf.mk a b k) j) p) + (1 : Nat)), AV.bool (abv (drR l (Pf.mk a b k)) (Pf.mk a b k) p), AV.vsl ((0 : Nat) + (1 : Nat) + (1 : Nat)) (0 : Nat) (List.length (List.map roE (drR l (Pf.mk a b k)))), AV.int IntKind.i64 ((↑p : Int) + (1 : Int)), AV.any, AV.any, AV.any, AV.any, AV.any, AV.any, AV.any, AV.any, AV.any, AV.any, AV.any, AV.any, AV.any, AV.any, AV.any, AV.any, AV.any, AV.any, AV.any, AV.any, AV.any, AV.any, AV.any, AV.any, AV.any, AV.any, AV.any, AV.any, AV.any, AV.any, AV.any, AV.any, AV.any, AV.any, AV.any, AV.any, AV.any, AV.any, AV.any, AV.any, AV.any] [some (Blk.mk false (36 : TypeId) (4 : Nat) true (List.map roE l)), some (Blk.mk true (36 : TypeId) (4 : Nat) true [AV.agg [AV.w64 a, AV.w64 b, AV.int IntKind.i64 k, AV.int IntKind.i64 j]]), some (Blk.mk true (36 : TypeId) (4 : Nat) true (List.map roE (drR l (Pf.mk a b k)))), some (Blk.mk true (36 : Nat) (4 : Nat) true (F (ptG (drR l (Pf.mk a b k)) (Ro.mk (Pf.mk a b k) j) (p + (1 : Nat)))))] = ptSt F l (drR l (Pf.mk a b k)) (Ro.mk (Pf.mk a b k) j) p' ∧ Nat.le p' (List.length (drR l (Pf.mk a b k))) ∧ List.length (drR l (Pf.mk a b k)) + (1 : Nat) - p' < List.length (drR l (Pf.mk a b k)) + (1 : Nat) - p)) ∧ (Decidable.decide ((↑p : Int) < (↑(List.length (List.map roE (drR l (Pf.mk a b k)))) : Int)) = false → ((!abv (drR l (Pf.mk a b k)) (Pf.mk a b k) p) = true → ((List.length (ptG (drR l (Pf.mk a b k)) (Ro.mk (Pf.mk a b k) j) p) + (1 : Nat)) * (32 : Nat) ≤ (140737488355328 : Nat) ∧ List.length (ptG (drR l (Pf.mk a b k)) (Ro.mk (Pf.mk a b k) j) p) + (1 : Nat) ≤ (9223372036854775807 : Nat) ∧ (0 : Nat) + (1 : Nat) ≤ List.length [AV.agg [AV.w64 a, AV.w64 b, AV.int IntKind.i64 k, AV.int IntKind.i64 j]] ∧ List.length (ptG (drR l (Pf.mk a b k)) (Ro.mk (Pf.mk a b k) j) p) ≤ List.length (F (ptG (drR l (Pf.mk a b k)) (Ro.mk (Pf.mk a b k) j) p))) ∧ List.take (List.length (ptG (drR l (Pf.mk a b k)) (Ro.mk (Pf.mk a b k) j) p)) (F (ptG (drR l (Pf.mk a b k)) (Ro.mk (Pf.mk a b k) j) p)) ++ [AV.agg [AV.w64 a, AV.w64 b, AV.int IntKind.i64 k, AV.int IntKind.i64 j]] = F (ptR l (Ro.mk (Pf.mk a b k) j)) ∧ List.length (ptG (drR l (Pf.mk a b k)) (Ro.mk (Pf.mk a b k) j) p) + (1 : Nat) = List.length es ∧ some (Blk.mk true (36 : Nat) (4 : Nat) true (F (ptR l (Ro.mk (Pf.mk a b k) j)))) = some (Blk.mk true (36 : TypeId) (4 : Nat) true es)) ∧ ((!abv (drR l (Pf.mk a b k)) (Pf.mk a b k) p) = false → List.length (ptG (drR l (Pf.mk a b k)) (Ro.mk (Pf.mk a b k) j) p) = List.length es ∧ some (Blk.mk true (36 : TypeId) (4 : Nat) true (F (ptG (drR l (Pf.mk a b k)) (Ro.mk (Pf.mk a b k) j) p))) = some (Blk.mk true (36 : TypeId) (4 : Nat) true es)))) := by kernel_rfl

theorem rrputCs_ok : ∀ e ∈ rrputCs, SpecOK Try.prog e.1 e.2 := by
  intro e he
  simp only [rrputCs, List.mem_cons, List.not_mem_nil, or_false] at he
  rcases he with rfl | rfl
  · exact rrdrop_ok
  · exact rcmp_ok

theorem rrput_ok : SpecOK Try.prog 32 (genSpec [pRefR, none] rrputF) := by
  refine genSpec_ok (run_ok (l := rrputCs) rrputCs_ok mixed noNG) fun l R hF => ?_
  unfold rrputF at hF
  split at hF
  · rename_i r_l a b k j
    obtain ⟨hr_l, hl, hF⟩ := hF
    generalize deR r_l = l at hr_l hl hF
    subst hr_l
    refine ⟨_, hF, trivial, (ptH (List.map roE) l ⟨⟨a, b, k⟩, j⟩), ?_⟩
    show run rrputCs Try.prog _ [.vsl 0 0 (l.map roE).length, .agg [.w64 a, .w64 b, .int .i64 k, .int .i64 j]] [some ⟨false, (pRefR.getD (0, 0)).1, (pRefR.getD (0, 0)).2, true, (l.map roE)⟩] _ _
    rw [rrput_run]
    rw [whole_row, deR_map]
    have zero : ∀ D : List Ro, abv D ⟨a, b, k⟩ 0 = false ∧ ptG D ⟨⟨a, b, k⟩, j⟩ 0 = [] := fun D => by
      have h : abv D ⟨a, b, k⟩ 0 = false := abv_false.2 fun i hi => by omega
      exact ⟨h, ptG_none h⟩
    have key : ∀ D : List Ro, D.length ≤ 1000000 → ∀ p, p ≤ D.length → (ptG D ⟨⟨a, b, k⟩, j⟩ p).length ≤ 1000001 := fun D hD p _ => Nat.le_trans ptG_length (by omega)
    have hD : (drR l ⟨a, b, k⟩).length ≤ 1000000 := Nat.le_trans (drR_length l _) hl
    have hDm : ((drR l ⟨a, b, k⟩).map roE).length = (drR l ⟨a, b, k⟩).length := List.length_map _
    refine ⟨by omega, rfl, hl, ⟨by unfold ptSt; rw [(zero _).1, (zero _).2]; rfl, Nat.zero_le _⟩, ?_⟩
    intro p hp0
    have hp0 : p ≤ (drR l ⟨a, b, k⟩).length := hp0
    have hf := key _ hD p hp0
    have hfm : ((ptG (drR l ⟨a, b, k⟩) ⟨⟨a, b, k⟩, j⟩ p).map roE).length = (ptG (drR l ⟨a, b, k⟩) ⟨⟨a, b, k⟩, j⟩ p).length := List.length_map _
    have app : ∀ (es : List Ro) (x : Ro) (y : AV), y = roE x → List.take es.length (es.map roE) ++ [y] = (es ++ [x]).map roE := fun es x y hy => by
      rw [List.map_append, List.take_of_length_le (by rw [List.length_map]; exact Nat.le_refl _), hy]; rfl
    refine ⟨fun hlt => ?_, fun hge => ?_⟩
    · have hp : p < (drR l ⟨a, b, k⟩).length := by have := of_decide_eq_true hlt; omega
      have B : 0 ≤ (p : Int) ∧ (p : Int) < (((drR l ⟨a, b, k⟩).map roE).length : Int) := by omega
      have nx : ∀ (n : Nat) (c : Bool), n = (ptG (drR l ⟨a, b, k⟩) ⟨⟨a, b, k⟩, j⟩ (p + 1)).length → c = abv (drR l ⟨a, b, k⟩) ⟨a, b, k⟩ (p + 1) → inRange .i64 ((p : Int) + 1) ∧ ∃ p', (⟨[.any, .any, .any, .ptr 1 0 0 true, .any, .vsl 3 0 n, .bool c, .vsl 2 0 ((drR l ⟨a, b, k⟩).map roE).length, .int .i64 ((p : Int) + 1), .any, .any, .any, .any, .any, .any, .any, .any, .any, .any, .any, .any, .any, .any, .any, .any, .any, .any, .any, .any, .any, .any, .any, .any, .any, .any, .any, .any, .any, .any, .any, .any, .any, .any, .any, .any, .any, .any, .any, .any, .any], [some ⟨false, 36, 4, true, l.map roE⟩, some ⟨true, 36, 4, true, [.agg [.w64 a, .w64 b, .int .i64 k, .int .i64 j]]⟩, some ⟨true, 36, 4, true, (drR l ⟨a, b, k⟩).map roE⟩, some ⟨true, 36, 4, true, (ptG (drR l ⟨a, b, k⟩) ⟨⟨a, b, k⟩, j⟩ (p + 1)).map roE⟩]⟩ : St) = ptSt (List.map roE) l (drR l ⟨a, b, k⟩) ⟨⟨a, b, k⟩, j⟩ p' ∧ Nat.le p' (drR l ⟨a, b, k⟩).length ∧ (drR l ⟨a, b, k⟩).length + 1 - p' < (drR l ⟨a, b, k⟩).length + 1 - p := fun n c h1 h2 => ⟨inR (by omega) (by omega), p + 1, by subst h1; subst h2; rfl, hp, by omega⟩
      refine ⟨fun hn => ⟨B, read_rows B.1 B.2 (rr_p _), fun hc => ?_, fun hc => ?_⟩, fun hn => ?_⟩
      · have hn : abv (drR l ⟨a, b, k⟩) (⟨⟨a, b, k⟩, j⟩ : Ro).p p = false := by simpa using hn
        obtain ⟨e1, e2⟩ := ptG_here hp hn (of_decide_eq_true hc)
        refine ⟨⟨by omega, by omega, by simp, by omega⟩, app _ _ _ rfl, B, read_rows B.1 B.2 (rr_whole _), ⟨by omega, by omega, by simp, by rw [List.length_map, List.length_append]; exact Nat.le_refl _⟩, ?_, nx _ _ (by rw [e1, List.length_append, List.length_append]; rfl) e2.symm⟩
        rw [e1]
        have := app (ptG (drR l ⟨a, b, k⟩) ⟨⟨a, b, k⟩, j⟩ p ++ [⟨⟨a, b, k⟩, j⟩]) (at' (drR l ⟨a, b, k⟩) p) _ rfl
        rw [List.length_append] at this
        exact this
      · have hn' : abv (drR l ⟨a, b, k⟩) (⟨⟨a, b, k⟩, j⟩ : Ro).p p = false := by simpa using hn
        obtain ⟨e1, e2⟩ := ptG_next hp hn' (of_decide_eq_false hc)
        refine ⟨B, read_rows B.1 B.2 (rr_whole _), ⟨by omega, by omega, by simp, by omega⟩, ?_, nx _ _ (by rw [e1, List.length_append]; rfl) (hn'.trans e2.symm)⟩
        rw [e1]
        exact app _ _ _ rfl
      · have hn' : abv (drR l ⟨a, b, k⟩) (⟨⟨a, b, k⟩, j⟩ : Ro).p p = true := by simpa using hn
        have e1 := ptG_there hp hn'
        have e2 : abv (drR l ⟨a, b, k⟩) (⟨⟨a, b, k⟩, j⟩ : Ro).p (p + 1) = true := by
          obtain ⟨i, hi, hc⟩ := abv_iff.1 hn'
          exact abv_iff.2 ⟨i, by omega, hc⟩
        refine ⟨B, read_rows B.1 B.2 (rr_whole _), ⟨by omega, by omega, by simp, by omega⟩, ?_, nx _ _ (by rw [e1, List.length_append]; rfl) (hn'.trans e2.symm)⟩
        rw [e1]
        exact app _ _ _ rfl
    · have hp : p = (drR l ⟨a, b, k⟩).length := by have := of_decide_eq_false hge; omega
      have he := ptG_end (l := drR l ⟨a, b, k⟩) (r := ⟨⟨a, b, k⟩, j⟩)
      rw [← hp] at he
      have hpt : ptR l ⟨⟨a, b, k⟩, j⟩ = inR' (drR l ⟨a, b, k⟩) ⟨⟨a, b, k⟩, j⟩ := rfl
      refine ⟨fun hn => ?_, fun hn => ?_⟩
      · have hn' : abv (drR l ⟨a, b, k⟩) (⟨⟨a, b, k⟩, j⟩ : Ro).p p = false := by simpa using hn
        rw [hn', if_neg (by simp)] at he
        refine ⟨⟨by omega, by omega, by simp, by omega⟩, ?_, ?_, rfl⟩
        · rw [hpt, he]; exact app _ _ _ rfl
        · rw [hpt, he, List.length_map, List.length_append]; rfl
      · have hn' : abv (drR l ⟨a, b, k⟩) (⟨⟨a, b, k⟩, j⟩ : Ro).p p = true := by simpa using hn
        rw [hn', if_pos rfl] at he
        rw [hpt, he]
        exact ⟨by rw [List.length_map], rfl⟩
  · exact hF.elim


end Go.Proofs.Ytfcjghgfanaipaa.L1
end

section
/-
  Layer 6: contracts of the document's Cover, Chain; of the law's One, Of, Same, table.
-/
namespace Go.Proofs.Ytfcjghgfanaipaa.L1
open Go.Sx Go.Sx.M

/-- Those that are shorter. -/
def shR (l : List Ro) (k : Int) : List Ro := l.filter fun x => decide (x.p.len < k)

theorem shR_snoc (l : List Ro) (x : Ro) (k : Int) : shR (l ++ [x]) k = if x.p.len < k then shR l k ++ [x] else shR l k := by
  unfold shR
  rw [List.filter_append]
  by_cases h : x.p.len < k
  · rw [if_pos h, List.filter_cons_of_pos (by simpa using h)]; simp
  · rw [if_neg h, List.filter_cons_of_neg (by simpa using h)]; simp

def cvSt (F : List Ro → List AV) (l : List Ro) (a b : BitVec 64) (k : Int) (p : Nat) : St :=
  ⟨[.vsl 0 0 (l.map roE).length, .any, .any, .ptr 1 0 0 true, .ptr 2 0 0 true, .any, .vsl 3 0 (shR (l.take p) k).length, .int .i64 p, .any, .any, .any, .any, .any, .any, .any, .any, .any, .any, .any, .any, .any, .any, .any, .any, .any, .any, .any, .any, .any, .any, .any, .any, .any, .any, .any, .any], [some ⟨false, 36, 4, true, l.map roE⟩, some ⟨true, 34, 3, true, [.agg [.w64 a, .w64 b, .int .i64 k]]⟩, some ⟨true, 36, 4, true, [roZ]⟩, some ⟨true, 36, 4, true, F (shR (l.take p) k)⟩]⟩
def cvM0 : Modes := ⟨[1, 0, 0, 1, 1, 0, 1, 2, 0, 0, 0, 0, 0, 0, 0, 0, 0, 0, 0, 0, 0, 0, 0, 0, 0, 0, 0, 0, 0, 0, 0, 0, 0, 0, 0, 0], [], [], [], [(6, 36, 4)]⟩
def cvM : Modes := ⟨[1, 0, 0, 1, 1, 0, 1, 1, 0, 0, 0, 0, 0, 0, 0, 0, 0, 0, 0, 0, 0, 0, 0, 0, 0, 0, 0, 0, 0, 0, 0, 0, 0, 0, 0, 0], [], [], [], []⟩
def cvM' : Modes := ⟨[0, 0, 0, 1, 1, 0, 1, 0, 0, 0, 0, 0, 0, 0, 0, 0, 0, 0, 0, 0, 0, 0, 0, 0, 0, 0, 0, 0, 0, 0, 0, 0, 0, 0, 0, 0], [], [], [], []⟩
def cvH (F : List Ro → List AV) (l : List Ro) (a b : BitVec 64) (k : Int) : List Hint := [.linv _ 0 (cvSt F l a b k) (fun p => p ≤ l.length) (fun p => l.length + 1 - p) cvM0 cvM cvM' (fun _ => []) fun p =>
  [.fork [.dy, .cell (.int .i64 (at' l p).p.len), .fork [.dy, .cell (roE (at' l p)), .rows (F (shR (l.take (p + 1)) k)), .nw] [.nw]] []]]

/-- Chains, of rows of less than N. -/
def chnF (N : Nat) : List Arg → (Res → Prop) → Prop
  | [.row r_l], R => r_l = (deR r_l).map roE ∧ (deR r_l).length ≤ 1000000 ∧ (deR r_l).length < N ∧ R (.v (.int .i64 (chR (deR r_l))))
  | _, _ => False

def ofrSt (F : List Ro → List AV) (l : List Ro) (p : Nat) : St :=
  ⟨[.any, .any, .any, .vsl 1 0 p, .any, .any, .vsl 0 0 (l.map roE).length, .int .i64 (l.map roE).length, .int .i64 p, .any, .any, .any, .any, .any, .any, .any, .any, .any, .any], [some ⟨false, 48, 4, true, l.map roE⟩, some ⟨true, 36, 4, true, F (l.take p)⟩]⟩
def ofrM0 : Modes := ⟨[0, 0, 0, 1, 0, 0, 1, 1, 2, 0, 0, 0, 0, 0, 0, 0, 0, 0, 0], [], [], [], [(3, 36, 4)]⟩
def ofrM : Modes := ⟨[0, 0, 0, 1, 0, 0, 1, 1, 1, 0, 0, 0, 0, 0, 0, 0, 0, 0, 0], [], [], [], []⟩
def ofrH (F : List Ro → List AV) (l : List Ro) : List Hint := [.linv _ 0 (ofrSt F l) (fun p => p ≤ l.length) (fun p => l.length + 1 - p) ofrM0 ofrM ofrM (fun _ => []) fun p =>
  [.fork [.dy, .cell (roE (at' l p)), .rows (F (l.take (p + 1))), .nw] []]]

def smSt (l m : List Ro) (p : Nat) : St :=
  ⟨[.vsl 0 0 (l.map roE).length, .vsl 1 0 (m.map roE).length, .any, .any, .any, .any, .any, .any, .any, .any, .any, .any, .int .i64 (l.map roE).length, .int .i64 p, .any, .any, .any, .any, .any, .any, .any, .any, .any, .any, .any, .any, .any], [some ⟨false, 48, 4, true, l.map roE⟩, some ⟨false, 36, 4, true, m.map roE⟩]⟩
def smM0 : Modes := ⟨[1, 1, 0, 0, 0, 0, 0, 0, 0, 0, 0, 0, 1, 2, 0, 0, 0, 0, 0, 0, 0, 0, 0, 0, 0, 0, 0], [], [], [], []⟩
def smM : Modes := ⟨[1, 1, 0, 0, 0, 0, 0, 0, 0, 0, 0, 0, 1, 1, 0, 0, 0, 0, 0, 0, 0, 0, 0, 0, 0, 0, 0], [], [], [], []⟩
def smM' : Modes := ⟨[0, 0, 0, 0, 2, 0, 0, 0, 0, 0, 0, 0, 0, 0, 0, 0, 0, 0, 0, 0, 0, 0, 0, 0, 0, 0, 0], [], [], [], []⟩
def smI (l m : List Ro) (p : Nat) : Prop := p ≤ l.length ∧ ∀ i, i < p → at' l i = at' m i
def smH (l m : List Ro) : List Hint := [.fork [] [.linv _ 0 (smSt l m) (smI l m) (fun p => l.length + 1 - p) smM0 smM smM' (fun _ => []) fun p =>
  [.fork [.dy, .cell (roE (at' l p)), .dy, .cell (roE (at' m p)), .fork [] [.nw]] []]]]

theorem eqRo (x y : Ro) : (x.p.a == y.p.a && x.p.b == y.p.b && x.p.len == y.p.len && x.act == y.act) = decide (x = y) := by
  obtain ⟨⟨a, b, k⟩, j⟩ := x
  obtain ⟨⟨c, d, m⟩, n⟩ := y
  rw [Bool.eq_iff_iff]
  simp [and_assoc]

def rrcoverF : List Arg → (Res → Prop) → Prop
  | [.row r_l, .v (.agg [.w64 a, .w64 b, .int .i64 k])], R => r_l = (deR r_l).map roE ∧ (deR r_l).length ≤ 1000000 ∧ R (.v (.tuple [.agg [.w64 (roO (cvrR (deR r_l) ⟨a, b, k⟩)).p.a, .w64 (roO (cvrR (deR r_l) ⟨a, b, k⟩)).p.b, .int .i64 (roO (cvrR (deR r_l) ⟨a, b, k⟩)).p.len, .int .i64 (roO (cvrR (deR r_l) ⟨a, b, k⟩)).act], .bool (cvrR (deR r_l) ⟨a, b, k⟩).isSome]))
  | _, _ => False

noncomputable def rrcoverCs : List (FuncId × Sx.Spec) := [(37, genSpec [pRefR, none] rrbestF)]

theorem rrcover_run (l : List Ro) (a b : BitVec 64) (k : Int) (F : List Ro → List AV) (r : AV) : run rrcoverCs Try.prog 31 [.vsl 0 0 (l.map roE).length, .agg [.w64 a, .w64 b, .int .i64 k]] [some ⟨false, (pRefR.getD (0, 0)).1, (pRefR.getD (0, 0)).2, true, (l.map roE)⟩] (cvH F l a b k) (yields (.v r)) =
    ((St.mk [AV.vsl (0 : Nat) (0 : Nat) (List.length (List.map roE l)), AV.any, AV.any, AV.ptr ((0 : Nat) + (1 : Nat)) (0 : Nat) (0 : Nat) true, AV.ptr ((0 : Nat) + (1 : Nat) + (1 : Nat)) (0 : Nat) (0 : Nat) true, AV.any, AV.vsl (List.length [some (Blk.mk false (nat_lit 36) (4 : Nat) true (List.map roE l)), some (Blk.mk true (34 : Nat) (3 : Nat) true [AV.agg [AV.w64 a, AV.w64 b, AV.int IntKind.i64 k]]), some (Blk.mk true (36 : Nat) (4 : Nat) true [AV.agg [AV.lit (Value.int IntKind.u64 (0 : Int)), AV.lit (Value.int IntKind.u64 (0 : Int)), AV.lit (Value.int IntKind.i64 (0 : Int)), AV.lit (Value.int IntKind.i64 (0 : Int))]])]) (0 : Nat) (0 : Nat), AV.int IntKind.i64 (0 : Int), AV.any, AV.any, AV.any, AV.any, AV.any, AV.any, AV.any, AV.any, AV.any, AV.any, AV.any, AV.any, AV.any, AV.any, AV.any, AV.any, AV.any, AV.any, AV.any, AV.any, AV.any, AV.any, AV.any, AV.any, AV.any, AV.any, AV.any, AV.any] ([some (Blk.mk false (nat_lit 36) (4 : Nat) true (List.map roE l)), some (Blk.mk true (34 : Nat) (3 : Nat) true [AV.agg [AV.w64 a, AV.w64 b, AV.int IntKind.i64 k]]), some (Blk.mk true (36 : Nat) (4 : Nat) true [AV.agg [AV.lit (Value.int IntKind.u64 (0 : Int)), AV.lit (Value.int IntKind.u64 (0 : Int)), AV.lit (Value.int IntKind.i64 (0 : Int)), AV.lit (Value.int IntKind.i64 (0 : Int))]])] ++ [some (Blk.mk true (36 : TypeId) (4 : Nat) true [])]) = cvSt F l a b k (0 : Nat) ∧ Nat.le (0 : Nat) (List.length l)) ∧ ∀ (p : Nat), Nat.le p (List.length l) → (Decidable.decide ((↑p : Int) < (↑(List.length (List.map roE l)) : Int)) = true → ((0 : Int) ≤ (↑p : Int) ∧ (↑p : Int) < (↑(List.length (List.map roE l)) : Int)) ∧ Blk.read Proofs.Try.prog (Blk.mk false (36 : TypeId) (4 : Nat) true (List.map roE l)) (3 : Nat) ((0 : Nat) + Int.toNat (↑p : Int)) ((0 : Nat) + (0 : Nat) + (2 : Nat)) = some (AV.int IntKind.i64 (Ro.p (at' l p)).3) ∧ (Decidable.decide ((Ro.p (at' l p)).3 < k) = true → ((0 : Int) ≤ (↑p : Int) ∧ (↑p : Int) < (↑(List.length (List.map roE l)) : Int)) ∧ Blk.read Proofs.Try.prog (Blk.mk false (36 : TypeId) (4 : Nat) true (List.map roE l)) (36 : Nat) ((0 : Nat) + Int.toNat (↑p : Int)) (0 : Nat) = some (AV.agg [AV.w64 (Ro.p (at' l p)).1, AV.w64 (Ro.p (at' l p)).2, AV.int IntKind.i64 (Ro.p (at' l p)).3, AV.int IntKind.i64 (at' l p).2]) ∧ ((List.length (shR (List.take p l) k) + (1 : Nat)) * (32 : Nat) ≤ (140737488355328 : Nat) ∧ List.length (shR (List.take p l) k) + (1 : Nat) ≤ (9223372036854775807 : Nat) ∧ (0 : Nat) + (1 : Nat) ≤ List.length [AV.agg [AV.w64 (Ro.p (at' l p)).1, AV.w64 (Ro.p (at' l p)).2, AV.int IntKind.i64 (Ro.p (at' l p)).3, AV.int IntKind.i64 (at' l p).2]] ∧ List.length (shR (List.take p l) k) ≤ List.length (F (shR (List.take p l) k))) ∧ List.take (List.length (shR (List.take p l) k)) (F (shR (List.take p l) k)) ++ [AV.agg [AV.w64 (Ro.p (at' l p)).1, AV.w64 (Ro.p (at' l p)).2, AV.int IntKind.i64 (Ro.p (at' l p)).3, AV.int IntKind.i64 (at' l p).2]] = F (shR (List.take (p + (1 : Nat)) l) k) ∧ inRange IntKind.i64 ((↑p : Int) + (1 : Int)) ∧ ∃ (p' : Nat), St.mk [AV.vsl (0 : Nat) (0 : Nat) (List.length (List.map roE l)), AV.any, AV.any, AV.ptr ((0 : Nat) + (1 : Nat)) (0 : Nat) (0 : Nat) true, AV.ptr ((0 : Nat) + (1 : Nat) + (1 : Nat)) (0 : Nat) (0 : Nat) true, AV.any, AV.vsl ((0 : Nat) + (1 : Nat) + (1 : Nat) + (1 : Nat)) (0 : Nat) (List.length (shR (List.take p l) k) + (1 : Nat)), AV.int IntKind.i64 ((↑p : Int) + (1 : Int)), AV.any, AV.any, AV.any, AV.any, AV.any, AV.any, AV.any, AV.any, AV.any, AV.any, AV.any, AV.any, AV.any, AV.any, AV.any, AV.any, AV.any, AV.any, AV.any, AV.any, AV.any, AV.any, AV.any, AV.any, AV.any, AV.any, AV.any, AV.any] [some (Blk.mk false (36 : TypeId) (4 : Nat) true (List.map roE l)), some (Blk.mk true (34 : TypeId) (3 : Nat) true [AV.agg [AV.w64 a, AV.w64 b, AV.int IntKind.i64 k]]), some (Blk.mk true (36 : TypeId) (4 : Nat) true [AV.agg [AV.lit (Value.int IntKind.u64 (0 : Int)), AV.lit (Value.int IntKind.u64 (0 : Int)), AV.lit (Value.int IntKind.i64 (0 : Int)), AV.lit (Value.int IntKind.i64 (0 : Int))]]), some (Blk.mk true (36 : Nat) (4 : Nat) true (F (shR (List.take (p + (1 : Nat)) l) k)))] = cvSt F l a b k p' ∧ Nat.le p' (List.length l) ∧ List.length l + (1 : Nat) - p' < List.length l + (1 : Nat) - p) ∧ (Decidable.decide ((Ro.p (at' l p)).3 < k) = false → inRange IntKind.i64 ((↑p : Int) + (1 : Int)) ∧ ∃ (p' : Nat), St.mk [AV.vsl (0 : Nat) (0 : Nat) (List.length (List.map roE l)), AV.any, AV.any, AV.ptr ((0 : Nat) + (1 : Nat)) (0 : Nat) (0 : Nat) true, AV.ptr ((0 : Nat) + (1 : Nat) + (1 : Nat)) (0 : Nat) (0 : Nat) true, AV.any, AV.vsl ((0 : Nat) + (1 : Nat) + (1 : Nat) + (1 : Nat)) (0 : Nat) (List.length (shR (List.take p l) k)), AV.int IntKind.i64 ((↑p : Int) + (1 : Int)), AV.any, AV.any, AV.any, AV.any, AV.any, AV.any, AV.any, AV.any, AV.any, AV.any, AV.any, AV.any, AV.any, AV.any, AV.any, AV.any, AV.any, AV.any, AV.any, AV.any, AV.any, AV.any, AV.any, AV.any, AV.any, AV.any, AV.any, AV.any] [some (Blk.mk false (36 : TypeId) (4 : Nat) true (List.map roE l)), some (Blk.mk true (34 : TypeId) (3 : Nat) true [AV.agg [AV.w64 a, AV.w64 b, AV.int IntKind.i64 k]]), some (Blk.mk true (36 : TypeId) (4 : Nat) true [AV.agg [AV.lit (Value.int IntKind.u64 (0 : Int)), AV.lit (Value.int IntKind.u64 (0 : Int)), AV.lit (Value.int IntKind.i64 (0 : Int)), AV.lit (Value.int IntKind.i64 (0 : Int))]]), some (Blk.mk true (36 : TypeId) (4 : Nat) true (F (shR (List.take p l) k)))] = cvSt F l a b k p' ∧ Nat.le p' (List.length l) ∧ List.length l + (1 : Nat) - p' < List.length l + (1 : Nat) - p)) ∧ (Decidable.decide ((↑p : Int) < (↑(List.length (List.map roE l)) : Int)) = false → (0 : Nat) + List.length (shR (List.take p l) k) ≤ List.length (F (shR (List.take p l) k)) ∧ List.take (List.length (shR (List.take p l) k)) (List.drop (0 : Nat) (F (shR (List.take p l) k))) = List.map roE (deR (List.take (List.length (shR (List.take p l) k)) (List.drop (0 : Nat) (F (shR (List.take p l) k))))) ∧ List.length (deR (List.take (List.length (shR (List.take p l) k)) (List.drop (0 : Nat) (F (shR (List.take p l) k))))) ≤ (9223372036854775807 : Nat) ∧ AV.tuple [AV.agg [AV.w64 (Ro.p (roO (bsR (deR (List.take (List.length (shR (List.take p l) k)) (List.drop (0 : Nat) (F (shR (List.take p l) k))))) a b))).1, AV.w64 (Ro.p (roO (bsR (deR (List.take (List.length (shR (List.take p l) k)) (List.drop (0 : Nat) (F (shR (List.take p l) k))))) a b))).2, AV.int IntKind.i64 (Ro.p (roO (bsR (deR (List.take (List.length (shR (List.take p l) k)) (List.drop (0 : Nat) (F (shR (List.take p l) k))))) a b))).3, AV.int IntKind.i64 (roO (bsR (deR (List.take (List.length (shR (List.take p l) k)) (List.drop (0 : Nat) (F (shR (List.take p l) k))))) a b)).2], AV.bool (Option.isSome (bsR (deR (List.take (List.length (shR (List.take p l) k)) (List.drop (0 : Nat) (F (shR (List.take p l) k))))) a b))] = r)) := by kernel_rfl

theorem rrcoverCs_ok : ∀ e ∈ rrcoverCs, SpecOK Try.prog e.1 e.2 := by
  intro e he
  simp only [rrcoverCs, List.mem_cons, List.not_mem_nil, or_false] at he
  rcases he with rfl
  · exact rrbest_ok

theorem rrcover_ok : SpecOK Try.prog 31 (genSpec [pRefR, none] rrcoverF) := by
  refine genSpec_ok (run_ok (l := rrcoverCs) rrcoverCs_ok mixed noNG) fun l R hF => ?_
  unfold rrcoverF at hF
  split at hF
  · rename_i r_l a b k
    obtain ⟨hr_l, hl, hF⟩ := hF
    generalize deR r_l = l at hr_l hl hF
    subst hr_l
    refine ⟨_, hF, rfl, (cvH (List.map roE) l a b k), ?_⟩
    show run rrcoverCs Try.prog _ [.vsl 0 0 (l.map roE).length, .agg [.w64 a, .w64 b, .int .i64 k]] [some ⟨false, (pRefR.getD (0, 0)).1, (pRefR.getD (0, 0)).2, true, (l.map roE)⟩] _ _
    rw [rrcover_run]
    refine ⟨⟨rfl, Nat.zero_le _⟩, ?_⟩
    intro p hp0
    have hp0 : p ≤ l.length := hp0
    have hf : (shR (l.take p) k).length ≤ 1000000 := Nat.le_trans (List.length_filter_le _ _) (by rw [List.length_take]; omega)
    refine ⟨fun hlt => ?_, fun hge => ?_⟩
    · have hp : p < l.length := by simp only [decide_eq_true_eq, List.length_map] at hlt; omega
      have B : 0 ≤ (p : Int) ∧ (p : Int) < ((l.map roE).length : Int) := by rw [List.length_map]; omega
      refine ⟨B, read_rows B.1 B.2 (ro_len _), fun hc => ?_, fun hc => ?_⟩
      · have e : shR (l.take (p + 1)) k = shR (l.take p) k ++ [at' l p] := by rw [take_one hp, shR_snoc, if_pos (of_decide_eq_true hc)]
        refine ⟨B, read_rows B.1 B.2 (rr_whole _), ⟨by omega, by omega, by simp, by rw [List.length_map]; exact Nat.le_refl _⟩, ?_, inR (by omega) (by omega), p + 1, ?_, hp, by omega⟩
        · rw [e, List.map_append, List.take_of_length_le (by rw [List.length_map]; exact Nat.le_refl _)]; rfl
        · unfold cvSt; rw [e, List.length_append]; rfl
      · have e : shR (l.take (p + 1)) k = shR (l.take p) k := by rw [take_one hp, shR_snoc, if_neg (of_decide_eq_false hc)]
        exact ⟨inR (by omega) (by omega), p + 1, by unfold cvSt; rw [e]; rfl, hp, by omega⟩
    · have hp : p = l.length := by simp only [decide_eq_false_iff_not, List.length_map] at hge; omega
      subst hp
      rw [List.take_length] at *
      have tk : List.take (shR l k).length (List.drop 0 ((shR l k).map roE)) = (shR l k).map roE := by rw [List.drop_zero, List.take_of_length_le (by rw [List.length_map]; exact Nat.le_refl _)]
      rw [tk, deR_map]
      exact ⟨by rw [List.length_map]; omega, rfl, by omega, rfl⟩
  · exact hF.elim


def of6F : List Arg → (Res → Prop) → Prop
  | [.row r_l], R => r_l = (deR r_l).map roE ∧ (deR r_l).length ≤ 1000000 ∧ R (.vrow 36 4 ((deR r_l).map roE))
  | _, _ => False

theorem of6_run (l : List Ro) (F : List Ro → List AV) (es : List AV) : run [] Try.prog 12 [.vsl 0 0 (l.map roE).length] [some ⟨false, (pRo.getD (0, 0)).1, (pRo.getD (0, 0)).2, true, (l.map roE)⟩] (ofrH F l) (yields (.vrow 36 4 es)) =
    ((St.mk [AV.any, AV.any, AV.any, AV.vsl (List.length [some (Blk.mk false (nat_lit 48) (4 : Nat) true (List.map roE l))]) (0 : Nat) (0 : Nat), AV.any, AV.any, AV.vsl (0 : Nat) (0 : Nat) (List.length (List.map roE l)), AV.int IntKind.i64 (↑(List.length (List.map roE l)) : Int), AV.int IntKind.i64 (0 : Int), AV.any, AV.any, AV.any, AV.any, AV.any, AV.any, AV.any, AV.any, AV.any, AV.any] ([some (Blk.mk false (nat_lit 48) (4 : Nat) true (List.map roE l))] ++ [some (Blk.mk true (36 : TypeId) (4 : Nat) true [])]) = ofrSt F l (0 : Nat) ∧ Nat.le (0 : Nat) (List.length l)) ∧ ∀ (p : Nat), Nat.le p (List.length l) → (Decidable.decide ((↑p : Int) < (↑(List.length (List.map roE l)) : Int)) = true → ((0 : Int) ≤ (↑p : Int) ∧ (↑p : Int) < (↑(List.length (List.map roE l)) : Int)) ∧ Blk.read Proofs.Try.prog (Blk.mk false (48 : TypeId) (4 : Nat) true (List.map roE l)) (48 : Nat) ((0 : Nat) + Int.toNat (↑p : Int)) (0 : Nat) = some (AV.agg [AV.w64 (Ro.p (at' l p)).1, AV.w64 (Ro.p (at' l p)).2, AV.int IntKind.i64 (Ro.p (at' l p)).3, AV.int IntKind.i64 (at' l p).2]) ∧ ((p + (1 : Nat)) * (32 : Nat) ≤ (140737488355328 : Nat) ∧ p + (1 : Nat) ≤ (9223372036854775807 : Nat) ∧ (0 : Nat) + (1 : Nat) ≤ List.length [AV.agg [AV.w64 (Ro.p (at' l p)).1, AV.w64 (Ro.p (at' l p)).2, AV.int IntKind.i64 (Ro.p (at' l p)).3, AV.int IntKind.i64 (at' l p).2]] ∧ p ≤ List.length (F (List.take p l))) ∧ List.take p (F (List.take p l)) ++ [AV.agg [AV.w64 (Ro.p (at' l p)).1, AV.w64 (Ro.p (at' l p)).2, AV.int IntKind.i64 (Ro.p (at' l p)).3, AV.int IntKind.i64 (at' l p).2]] = F (List.take (p + (1 : Nat)) l) ∧ inRange IntKind.i64 ((↑p : Int) + (1 : Int)) ∧ ∃ (p' : Nat), St.mk [AV.any, AV.any, AV.any, AV.vsl ((0 : Nat) + (1 : Nat)) (0 : Nat) (p + (1 : Nat)), AV.any, AV.any, AV.vsl (0 : Nat) (0 : Nat) (List.length (List.map roE l)), AV.int IntKind.i64 (↑(List.length (List.map roE l)) : Int), AV.int IntKind.i64 ((↑p : Int) + (1 : Int)), AV.any, AV.any, AV.any, AV.any, AV.any, AV.any, AV.any, AV.any, AV.any, AV.any] [some (Blk.mk false (48 : TypeId) (4 : Nat) true (List.map roE l)), some (Blk.mk true (36 : Nat) (4 : Nat) true (F (List.take (p + (1 : Nat)) l)))] = ofrSt F l p' ∧ Nat.le p' (List.length l) ∧ List.length l + (1 : Nat) - p' < List.length l + (1 : Nat) - p) ∧ (Decidable.decide ((↑p : Int) < (↑(List.length (List.map roE l)) : Int)) = false → p = List.length es ∧ some (Blk.mk true (36 : TypeId) (4 : Nat) true (F (List.take p l))) = some (Blk.mk true (36 : TypeId) (4 : Nat) true es))) := by kernel_rfl

theorem of6_ok : SpecOK Try.prog 12 (genSpec [pRo] of6F) := by
  refine genSpec_ok none_ok fun l R hF => ?_
  unfold of6F at hF
  split at hF
  · rename_i r_l
    obtain ⟨hr_l, hl, hF⟩ := hF
    generalize deR r_l = l at hr_l hl hF
    subst hr_l
    refine ⟨_, hF, trivial, (ofrH (List.map roE) l), ?_⟩
    show run [] Try.prog _ [.vsl 0 0 (l.map roE).length] [some ⟨false, (pRo.getD (0, 0)).1, (pRo.getD (0, 0)).2, true, (l.map roE)⟩] _ _
    rw [of6_run]
    have lt : ∀ p, p ≤ l.length → ((l.take p).map roE).length = p := fun p hp => by rw [List.length_map, List.length_take]; omega
    refine ⟨⟨rfl, Nat.zero_le _⟩, ?_⟩
    intro p hp
    have hp : p ≤ l.length := hp
    refine ⟨fun hlt => ?_, fun hge => ?_⟩
    · have hlt : p < l.length := by simp only [decide_eq_true_eq, List.length_map] at hlt; omega
      have B : 0 ≤ (p : Int) ∧ (p : Int) < ((l.map roE).length : Int) := by rw [List.length_map]; omega
      refine ⟨B, read_rows B.1 B.2 (ro_whole _), ⟨by omega, by omega, by simp, by rw [lt p hp]; omega⟩, ?_, inR (by omega) (by omega), p + 1, rfl, (by omega : p + 1 ≤ l.length), by omega⟩
      rw [List.take_of_length_le (by rw [lt p hp]; omega), List.take_add_one, at_get hlt, List.map_append]
      rfl
    · have hp : p = l.length := by simp only [decide_eq_false_iff_not, List.length_map] at hge; omega
      subst hp
      rw [List.take_length, List.length_map]
      exact ⟨rfl, rfl⟩
  · exact hF.elim


def same6F : List Arg → (Res → Prop) → Prop
  | [.row r_l, .row r_m], R => r_l = (deR r_l).map roE ∧ (deR r_l).length ≤ 9223372036854775807 ∧ r_m = (deR r_m).map roE ∧ (deR r_m).length ≤ 9223372036854775807 ∧ R (.v (.bool (decide ((deR r_l) = (deR r_m)))))
  | _, _ => False

theorem same6_run (l m : List Ro) (r : AV) : run [] Try.prog 15 [.vsl 0 0 (l.map roE).length, .vsl 1 0 (m.map roE).length] [some ⟨false, (pRo.getD (0, 0)).1, (pRo.getD (0, 0)).2, true, (l.map roE)⟩, some ⟨false, (pRefR.getD (0, 0)).1, (pRefR.getD (0, 0)).2, true, (m.map roE)⟩] (smH l m) (yields (.v r)) =
    ((((↑(List.length (List.map roE l)) : Int) != (↑(List.length (List.map roE m)) : Int)) = true → AV.bool false = r) ∧ (((↑(List.length (List.map roE l)) : Int) != (↑(List.length (List.map roE m)) : Int)) = false → (St.mk [AV.vsl (0 : Nat) (0 : Nat) (List.length (List.map roE l)), AV.vsl ((0 : Nat) + (1 : Nat)) (0 : Nat) (List.length (List.map roE m)), AV.any, AV.any, AV.any, AV.any, AV.any, AV.any, AV.any, AV.any, AV.any, AV.any, AV.int IntKind.i64 (↑(List.length (List.map roE l)) : Int), AV.int IntKind.i64 (0 : Int), AV.any, AV.any, AV.any, AV.any, AV.any, AV.any, AV.any, AV.any, AV.any, AV.any, AV.any, AV.any, AV.any] [some (Blk.mk false (nat_lit 48) (4 : Nat) true (List.map roE l)), some (Blk.mk false (nat_lit 36) (4 : Nat) true (List.map roE m))] = smSt l m (0 : Nat) ∧ smI l m (0 : Nat)) ∧ ∀ (p : Nat), smI l m p → (Decidable.decide ((↑p : Int) < (↑(List.length (List.map roE l)) : Int)) = true → ((0 : Int) ≤ (↑p : Int) ∧ (↑p : Int) < (↑(List.length (List.map roE l)) : Int)) ∧ Blk.read Proofs.Try.prog (Blk.mk false (48 : TypeId) (4 : Nat) true (List.map roE l)) (48 : Nat) ((0 : Nat) + Int.toNat (↑p : Int)) (0 : Nat) = some (AV.agg [AV.w64 (Ro.p (at' l p)).1, AV.w64 (Ro.p (at' l p)).2, AV.int IntKind.i64 (Ro.p (at' l p)).3, AV.int IntKind.i64 (at' l p).2]) ∧ ((0 : Int) ≤ (↑p : Int) ∧ (↑p : Int) < (↑(List.length (List.map roE m)) : Int)) ∧ Blk.read Proofs.Try.prog (Blk.mk false (36 : TypeId) (4 : Nat) true (List.map roE m)) (36 : Nat) ((0 : Nat) + Int.toNat (↑p : Int)) (0 : Nat) = some (AV.agg [AV.w64 (Ro.p (at' m p)).1, AV.w64 (Ro.p (at' m p)).2, AV.int IntKind.i64 (Ro.p (at' m p)).3, AV.int IntKind.i64 (at' m p).2]) ∧ ((!((Ro.p (at' l p)).1 == (Ro.p (at' m p)).1 && (Ro.p (at' l p)).2 == (Ro.p (at' m p)).2 && (Ro.p (at' l p)).3 == (Ro.p (at' m p)).3 && (at' l p).2 == (at' m p).2)) = true → AV.bool false = r) ∧ ((!((Ro.p (at' l p)).1 == (Ro.p (at' m p)).1 && (Ro.p (at' l p)).2 == (Ro.p (at' m p)).2 && (Ro.p (at' l p)).3 == (Ro.p (at' m p)).3 && (at' l p).2 == (at' m p).2)) = false → inRange IntKind.i64 ((↑p : Int) + (1 : Int)) ∧ ∃ (p' : Nat), St.mk [AV.vsl (0 : Nat) (0 : Nat) (List.length (List.map roE l)), AV.vsl ((0 : Nat) + (1 : Nat)) (0 : Nat) (List.length (List.map roE m)), AV.any, AV.any, AV.any, AV.any, AV.any, AV.any, AV.any, AV.any, AV.any, AV.any, AV.int IntKind.i64 (↑(List.length (List.map roE l)) : Int), AV.int IntKind.i64 ((↑p : Int) + (1 : Int)), AV.any, AV.any, AV.any, AV.any, AV.any, AV.any, AV.any, AV.any, AV.any, AV.any, AV.any, AV.any, AV.any] [some (Blk.mk false (48 : TypeId) (4 : Nat) true (List.map roE l)), some (Blk.mk false (36 : TypeId) (4 : Nat) true (List.map roE m))] = smSt l m p' ∧ smI l m p' ∧ List.length l + (1 : Nat) - p' < List.length l + (1 : Nat) - p)) ∧ (Decidable.decide ((↑p : Int) < (↑(List.length (List.map roE l)) : Int)) = false → AV.bool true = r))) := by kernel_rfl

theorem same6_ok : SpecOK Try.prog 15 (genSpec [pRo, pRefR] same6F) := by
  refine genSpec_ok none_ok fun l R hF => ?_
  unfold same6F at hF
  split at hF
  · rename_i r_l r_m
    obtain ⟨hr_l, hl, hF⟩ := hF
    generalize deR r_l = l at hr_l hl hF
    subst hr_l
    obtain ⟨hr_m, hm, hF⟩ := hF
    generalize deR r_m = m at hr_m hm hF
    subst hr_m
    refine ⟨_, hF, rfl, (smH l m), ?_⟩
    show run [] Try.prog _ [.vsl 0 0 (l.map roE).length, .vsl 1 0 (m.map roE).length] [some ⟨false, (pRo.getD (0, 0)).1, (pRo.getD (0, 0)).2, true, (l.map roE)⟩, some ⟨false, (pRefR.getD (0, 0)).1, (pRefR.getD (0, 0)).2, true, (m.map roE)⟩] _ _
    rw [same6_run]
    refine ⟨fun hne => ?_, fun he => ⟨⟨rfl, Nat.zero_le _, fun i hi => by omega⟩, ?_⟩⟩
    · have hne : l ≠ m := fun e => by subst e; simp at hne
      rw [decide_eq_false hne]
    · have he : l.length = m.length := by have : ((l.length : Int)) = (m.length : Int) := by simpa using he
                                          omega
      rintro p ⟨h1, h2⟩
      refine ⟨fun hlt => ?_, fun hge => ?_⟩
      · have hp : p < l.length := by simp only [decide_eq_true_eq, List.length_map] at hlt; omega
        have B : 0 ≤ (p : Int) ∧ (p : Int) < ((l.map roE).length : Int) := by rw [List.length_map]; omega
        have B' : 0 ≤ (p : Int) ∧ (p : Int) < ((m.map roE).length : Int) := by rw [List.length_map]; omega
        refine ⟨B, read_rows B.1 B.2 (ro_whole _), B', read_rows B'.1 B'.2 (rr_whole _), fun hn => ?_, fun hn => ?_⟩
        · rw [eqRo] at hn
          have hne : at' l p ≠ at' m p := by simpa using hn
          rw [decide_eq_false fun e => hne (by rw [e])]
        · rw [eqRo] at hn
          exact ⟨inR (by omega) (by omega), p + 1, rfl, ⟨hp, up h2 (by simpa using hn)⟩, by omega⟩
      · have hp : p = l.length := by simp only [decide_eq_false_iff_not, List.length_map] at hge; omega
        have e : l = m := List.ext_getElem? fun i => by
          by_cases hi : i < l.length
          · rw [at_get hi, at_get (by omega), h2 i (by omega)]
          · rw [List.getElem?_eq_none (by omega), List.getElem?_eq_none (by omega)]
        rw [decide_eq_true e]
  · exact hF.elim


end Go.Proofs.Ytfcjghgfanaipaa.L1
end

section
/-
  Layer 6: what the contracts of the program's calls on routes say.
-/
namespace Go.Proofs.Ytfcjghgfanaipaa.L1
open Go.Sx Go.Sx.M

/-- Which rows are tables. -/
def gtableF : List Arg → (Res → Prop) → Prop
  | [.v (.int .i64 w), .row r_l], R => r_l = (deR r_l).map roE ∧ (deR r_l).length ≤ 1000000 ∧ R (.v (.bool (tbR w (deR r_l))))
  | _, _ => False

/-- Of a table: a prefix's route, the best one for an address, what is to be done; with a route more, or less; the nearest one that covers, and what is covered; how many cover one another. -/
def gfindF : List Arg → (Res → Prop) → Prop
  | [.row r_l, .v (.agg [.w64 a, .w64 b, .int .i64 k])], R => r_l = (deR r_l).map roE ∧ tbR 128 (deR r_l) = true ∧ R (.v (.tuple [.agg [.w64 (roO (fdR (deR r_l) ⟨a, b, k⟩)).p.a, .w64 (roO (fdR (deR r_l) ⟨a, b, k⟩)).p.b, .int .i64 (roO (fdR (deR r_l) ⟨a, b, k⟩)).p.len, .int .i64 (roO (fdR (deR r_l) ⟨a, b, k⟩)).act], .bool (fdR (deR r_l) ⟨a, b, k⟩).isSome]))
  | _, _ => False

def gbestF : List Arg → (Res → Prop) → Prop
  | [.row r_l, .v (.agg [.w64 c, .w64 d])], R => r_l = (deR r_l).map roE ∧ tbR 128 (deR r_l) = true ∧ R (.v (.tuple [.agg [.w64 (roO (bsR (deR r_l) c d)).p.a, .w64 (roO (bsR (deR r_l) c d)).p.b, .int .i64 (roO (bsR (deR r_l) c d)).p.len, .int .i64 (roO (bsR (deR r_l) c d)).act], .bool (bsR (deR r_l) c d).isSome]))
  | _, _ => False

def gtellF : List Arg → (Res → Prop) → Prop
  | [.row r_l, .v (.agg [.w64 c, .w64 d])], R => r_l = (deR r_l).map roE ∧ tbR 128 (deR r_l) = true ∧ R (.v (.int .i64 (tlR (deR r_l) c d)))
  | _, _ => False

def gcoverF : List Arg → (Res → Prop) → Prop
  | [.row r_l, .v (.agg [.w64 a, .w64 b, .int .i64 k])], R => r_l = (deR r_l).map roE ∧ tbR 128 (deR r_l) = true ∧ riP 128 ⟨a, b, k⟩ = true ∧ R (.v (.tuple [.agg [.w64 (roO (cvrR (deR r_l) ⟨a, b, k⟩)).p.a, .w64 (roO (cvrR (deR r_l) ⟨a, b, k⟩)).p.b, .int .i64 (roO (cvrR (deR r_l) ⟨a, b, k⟩)).p.len, .int .i64 (roO (cvrR (deR r_l) ⟨a, b, k⟩)).act], .bool (cvrR (deR r_l) ⟨a, b, k⟩).isSome]))
  | _, _ => False

def gdropF : List Arg → (Res → Prop) → Prop
  | [.row r_l, .v (.agg [.w64 a, .w64 b, .int .i64 k])], R => r_l = (deR r_l).map roE ∧ tbR 128 (deR r_l) = true ∧ R (.vrow 48 4 ((drR (deR r_l) ⟨a, b, k⟩).map roE))
  | _, _ => False

def gputF : List Arg → (Res → Prop) → Prop
  | [.row r_l, .v (.agg [.w64 a, .w64 b, .int .i64 k, .int .i64 j])], R => r_l = (deR r_l).map roE ∧ tbR 128 (deR r_l) = true ∧ riR 128 ⟨⟨a, b, k⟩, j⟩ = true ∧ R (.vrow 48 4 ((ptR (deR r_l) ⟨⟨a, b, k⟩, j⟩).map roE))
  | _, _ => False

def gchainF : List Arg → (Res → Prop) → Prop
  | [.row r_l], R => r_l = (deR r_l).map roE ∧ tbR 128 (deR r_l) = true ∧ R (.v (.int .i64 (chR (deR r_l))))
  | _, _ => False

end Go.Proofs.Ytfcjghgfanaipaa.L1
end

