/-
  Texts in one: L6M L6N L6T L6A L6B L6C L6D L6V.
-/
import Derived.Test.YtnjbgbdcbejciaaL2a
import Derived.Test.YtnjbgbdcbejciaaMa
import Derived.Test.YtnjbgbdcbejciaaR
import Derived.Test.YtnjbgbdcbejciaaL2S

section
/-
  Layer 6: routes, and rows of routes: plain mathematics over the contracts' own terms.
-/
namespace Go.Sx.M
open Go.Proofs.Ytnjbgbdcbejciaa.L1

/-- A prefix. -/
structure Pf where
  a : BitVec 64
  b : BitVec 64
  len : Int
  deriving DecidableEq, Inhabited

/-- A route. -/
structure Ro where
  p : Pf
  act : Int
  deriving DecidableEq, Inhabited

def mtP (p : Pf) (c d : BitVec 64) : Bool := matchB p.a p.b p.len c d
def cvP (p q : Pf) : Bool := decide (p.len ≤ q.len) && mtP p q.a q.b
def cpP (p q : Pf) : Int := cmpP p.a p.b p.len q.a q.b q.len
def riP (w : Int) (p : Pf) : Bool := rightB w p.a p.b p.len
def riR (w : Int) (r : Ro) : Bool := riP w r.p && (decide (r.act ≥ 1) && decide (r.act ≤ 255))

theorem cpP_lt {p q : Pf} : cpP p q < 0 ↔ V p.a p.b < V q.a q.b ∨ (V p.a p.b = V q.a q.b ∧ p.len < q.len) := by
  unfold cpP cmpP orI cmpV cmpI
  split <;> split <;> (try split) <;> (try split) <;> simp_all <;> omega

theorem cpP_zero {p q : Pf} : cpP p q = 0 ↔ p = q := by
  unfold cpP
  rw [cmpP_zero]
  cases p; cases q; simp

theorem cpP_trans {p q r : Pf} (h1 : cpP p q < 0) (h2 : cpP q r < 0) : cpP p r < 0 := by
  rw [cpP_lt] at *
  omega

theorem cpP_self (p : Pf) : cpP p p = 0 := cpP_zero.2 rfl

/-- What is known of a prefix that may be. -/
theorem riP_iff {w : Int} {p : Pf} : riP w p = true ↔ (w = 32 ∨ w = 128) ∧ 0 ≤ p.len ∧ p.len ≤ w ∧ ∀ i : Nat, i < 128 → p.len ≤ (i : Int) → bitAt p.a p.b i = false := right_iff

theorem mtP_iff {p : Pf} {c d : BitVec 64} : mtP p c d = true ↔ ∀ i : Nat, i < 128 → (i : Int) < p.len → bitAt p.a p.b i = bitAt c d i := match_iff

theorem cvP_iff {p q : Pf} : cvP p q = true ↔ p.len ≤ q.len ∧ ∀ i : Nat, i < 128 → (i : Int) < p.len → bitAt p.a p.b i = bitAt q.a q.b i := by
  unfold cvP
  rw [Bool.and_eq_true, decide_eq_true_eq, mtP_iff]

/-- Two that may be, of one length, that match one address, are one. -/
theorem riP_eq {w w' : Int} {p q : Pf} {c d : BitVec 64} (hp : riP w p = true) (hq : riP w' q = true) (hl : p.len = q.len) (h1 : mtP p c d = true) (h2 : mtP q c d = true) : p = q := by
  obtain ⟨_, _, _, p3⟩ := riP_iff.1 hp
  obtain ⟨_, _, _, q3⟩ := riP_iff.1 hq
  rw [mtP_iff] at h1 h2
  have : p.a = q.a ∧ p.b = q.b := bitAt_eq fun i hi => by
    by_cases h : (i : Int) < p.len
    · rw [h1 i hi h, h2 i hi (by omega)]
    · rw [p3 i hi (by omega), q3 i hi (by omega)]
  cases p; cases q; simp_all

/-- A table. -/
structure TB (w : Int) (l : List Ro) : Prop where
  fam : w = 32 ∨ w = 128
  most : l.length ≤ 256
  right : ∀ x ∈ l, riR w x = true
  sorted : l.Pairwise fun x y => cpP x.p y.p < 0

def tbR (w : Int) (l : List Ro) : Bool := decide ((w = 32 ∨ w = 128) ∧ l.length ≤ 256 ∧ (∀ i, i < l.length → riR w (at' l i) = true) ∧ ∀ i, i < l.length → 0 < i → cpP (at' l (i - 1)).p (at' l i).p < 0)

theorem tbR_iff {w : Int} {l : List Ro} : tbR w l = true ↔ TB w l := by
  unfold tbR
  rw [decide_eq_true_eq]
  constructor
  · rintro ⟨h1, h2, h3, h4⟩
    refine ⟨h1, h2, fun x hx => ?_, ?_⟩
    · obtain ⟨k, hk, rfl⟩ := mem_at hx
      exact h3 k hk
    · have key : ∀ k, k < l.length → ∀ i, i < k → cpP (at' l i).p (at' l k).p < 0 := by
        intro k
        induction k with
        | zero => intro _ i hi; omega
        | succ k ih =>
          intro hk i hi
          have h5 := h4 (k + 1) hk (by omega)
          rw [Nat.add_sub_cancel] at h5
          rcases Nat.lt_or_eq_of_le (Nat.le_of_lt_succ hi) with h | rfl
          · exact cpP_trans (ih (by omega) i h) h5
          · exact h5
      refine List.pairwise_iff_getElem.2 fun i j hi hj hij => ?_
      have e1 : l[i] = at' l i := by have := at_get hi; rw [List.getElem?_eq_getElem hi] at this; exact Option.some_inj.1 this
      have e2 : l[j] = at' l j := by have := at_get hj; rw [List.getElem?_eq_getElem hj] at this; exact Option.some_inj.1 this
      rw [e1, e2]
      exact key j hj i hij
  · intro h
    refine ⟨h.fam, h.most, fun i hi => h.right _ (at_mem hi), fun i hi h0 => ?_⟩
    have := List.pairwise_iff_getElem.1 h.sorted (i - 1) i (by omega) hi (by omega)
    have h' : i - 1 < l.length := by omega
    have e1 : l[i - 1] = at' l (i - 1) := by have := at_get h'; rw [List.getElem?_eq_getElem h'] at this; exact Option.some_inj.1 this
    have e2 : l[i] = at' l i := by have := at_get hi; rw [List.getElem?_eq_getElem hi] at this; exact Option.some_inj.1 this
    rw [e1, e2] at this
    exact this

theorem TB.rip {w : Int} {l : List Ro} (h : TB w l) {x : Ro} (hx : x ∈ l) : riP w x.p = true := by
  have := h.right x hx
  unfold riR at this
  rw [Bool.and_eq_true] at this
  exact this.1

theorem TB.sub {w : Int} {l m : List Ro} (h : TB w l) (hs : m.Sublist l) : TB w m :=
  ⟨h.fam, Nat.le_trans hs.length_le h.most, fun x hx => h.right x (hs.subset hx), h.sorted.sublist hs⟩

/-- Of a table each prefix has one route. -/
theorem TB.one {w : Int} {l : List Ro} (h : TB w l) {x y : Ro} (hx : x ∈ l) (hy : y ∈ l) (hp : x.p = y.p) : x = y := by
  have := h.sorted
  induction l with
  | nil => cases hx
  | cons z l ih =>
    obtain ⟨h1, h2⟩ := List.pairwise_cons.1 this
    have h' : TB w l := h.sub (List.sublist_cons_self _ _)
    rcases List.mem_cons.1 hx with rfl | hx' <;> rcases List.mem_cons.1 hy with rfl | hy'
    · rfl
    · have := h1 y hy'; rw [hp, cpP_self] at this; omega
    · have := h1 x hx'; rw [hp, cpP_self] at this; omega
    · exact ih h' hx' hy' h2

/-- What a prefix covers. -/
def unR (l : List Ro) (p : Pf) : List Ro := l.filter fun x => !decide (x.p = p) && cvP p x.p

/-- Two tables of the same routes are one. -/
theorem tb_ext {l m : List Ro} (hl : l.Pairwise fun x y => cpP x.p y.p < 0) (hm : m.Pairwise fun x y => cpP x.p y.p < 0) (h : ∀ x, x ∈ l ↔ x ∈ m) : l = m := by
  induction l generalizing m with
  | nil =>
    cases m with
    | nil => rfl
    | cons y m => have := (h y).2 (by simp); cases this
  | cons x l ih =>
    cases m with
    | nil => have := (h x).1 (by simp); cases this
    | cons y m =>
      obtain ⟨h1, h2⟩ := List.pairwise_cons.1 hl
      obtain ⟨g1, g2⟩ := List.pairwise_cons.1 hm
      have exy : x = y := by
        rcases List.mem_cons.1 ((h x).1 (by simp)) with e | hx
        · exact e
        · rcases List.mem_cons.1 ((h y).2 (by simp)) with e | hy
          · exact e.symm
          · have a := g1 x hx
            have b := h1 y hy
            have := cpP_trans a b
            rw [cpP_self] at this; omega
      subst exy
      rw [ih h2 g2 fun z => ?_]
      constructor
      · intro hz
        rcases List.mem_cons.1 ((h z).1 (by simp [hz])) with e | hz'
        · subst e; have := h1 z hz; rw [cpP_self] at this; omega
        · exact hz'
      · intro hz
        rcases List.mem_cons.1 ((h z).2 (by simp [hz])) with e | hz'
        · subst e; have := g1 z hz; rw [cpP_self] at this; omega
        · exact hz'

end Go.Sx.M
end

section
/-
  Layer 6: the best route, the nearest one that covers, chains: plain mathematics.
-/
namespace Go.Sx.M
open Go.Proofs.Ytnjbgbdcbejciaa.L1

/-- Of the first n, looked at in their order, the first one of those that are the greatest; -1: there is none. -/
def fbX {T : Type} [Inhabited T] (ok : T → Bool) (ln : T → Int) (l : List T) : Nat → Int
  | 0 => -1
  | n + 1 => if (decide (fbX ok ln l n < 0) || decide (ln (at' l n) > ln (at' l (fbX ok ln l n).toNat))) && ok (at' l n) then (n : Int) else fbX ok ln l n

/-- It is that one. -/
def FbX {T : Type} [Inhabited T] (ok : T → Bool) (ln : T → Int) (l : List T) (n : Nat) (r : Int) : Prop :=
  (r = -1 ∧ ∀ j, j < n → ok (at' l j) = false) ∨ ∃ i : Nat, r = i ∧ i < n ∧ ok (at' l i) = true ∧ ∀ j, j < n → ok (at' l j) = true → ln (at' l j) ≤ ln (at' l i) ∧ (j < i → ln (at' l j) < ln (at' l i))

theorem fbX_spec {T : Type} [Inhabited T] (ok : T → Bool) (ln : T → Int) (l : List T) : ∀ n, FbX ok ln l n (fbX ok ln l n)
  | 0 => .inl ⟨rfl, fun j h => by omega⟩
  | n + 1 => by
    have ih := fbX_spec ok ln l n
    unfold fbX
    generalize fbX ok ln l n = r at ih
    cases hm : ok (at' l n) with
    | false =>
      rw [Bool.and_false, if_neg (by simp)]
      rcases ih with ⟨h1, h2⟩ | ⟨i, h1, h2, h3, h4⟩
      · exact .inl ⟨h1, fun j hj => by
          rcases Nat.lt_or_eq_of_le (Nat.le_of_lt_succ hj) with h | rfl
          · exact h2 j h
          · exact hm⟩
      · exact .inr ⟨i, h1, by omega, h3, fun j hj hj2 => by
          rcases Nat.lt_or_eq_of_le (Nat.le_of_lt_succ hj) with h | rfl
          · exact h4 j h hj2
          · rw [hm] at hj2; cases hj2⟩
    | true =>
      rw [Bool.and_true]
      rcases ih with ⟨rfl, h2⟩ | ⟨i, rfl, h2, h3, h4⟩
      · rw [if_pos (by simp)]
        exact .inr ⟨n, rfl, by omega, hm, fun j hj hj2 => by
          rcases Nat.lt_or_eq_of_le (Nat.le_of_lt_succ hj) with h | rfl
          · rw [h2 j h] at hj2; cases hj2
          · exact ⟨Int.le_refl _, fun h => by omega⟩⟩
      · have e3 : ((i : Int)).toNat = i := by omega
        rw [e3, show decide ((i : Int) < 0) = false from by simp, Bool.false_or]
        by_cases hl : ln (at' l n) > ln (at' l i)
        · rw [if_pos (by simpa using hl)]
          exact .inr ⟨n, rfl, by omega, hm, fun j hj hj2 => by
            rcases Nat.lt_or_eq_of_le (Nat.le_of_lt_succ hj) with h | rfl
            · have := (h4 j h hj2).1
              exact ⟨by omega, fun _ => by omega⟩
            · exact ⟨Int.le_refl _, fun h => by omega⟩⟩
        · rw [if_neg (by simpa using hl)]
          exact .inr ⟨i, rfl, by omega, h3, fun j hj hj2 => by
            rcases Nat.lt_or_eq_of_le (Nat.le_of_lt_succ hj) with h | rfl
            · exact h4 j h hj2
            · exact ⟨by omega, fun h => by omega⟩⟩

theorem FbX.uniq {T : Type} [Inhabited T] {ok : T → Bool} {ln : T → Int} {l : List T} {n : Nat} {r s : Int} (h : FbX ok ln l n r) (h' : FbX ok ln l n s) : r = s := by
  rcases h with ⟨rfl, h⟩ | ⟨i, rfl, hi, h1, h2⟩ <;> rcases h' with ⟨rfl, g⟩ | ⟨k, rfl, hk, g1, g2⟩
  · rfl
  · rw [h k hk] at g1; cases g1
  · rw [g i hi] at h1; cases h1
  · have a1 := h2 k hk g1
    have a2 := g2 i hi h1
    rcases Nat.lt_trichotomy i k with h | h | h
    · have := a2.2 h; omega
    · rw [h]
    · have := a1.2 h; omega

/-- It matches, and its length may be. -/
def okR (c d : BitVec 64) (x : Ro) : Bool := mtP x.p c d && (decide (0 ≤ x.p.len) && decide (x.p.len ≤ 128))

def lnR (x : Ro) : Int := x.p.len

def bxR (l : List Ro) (c d : BitVec 64) : Int := fbX (okR c d) lnR l l.length

/-- The best route for an address, if there is one. -/
def bsR (l : List Ro) (c d : BitVec 64) : Option Ro := if bxR l c d < 0 then none else some (at' l (bxR l c d).toNat)

/-- What is to be done. -/
def tlR (l : List Ro) (c d : BitVec 64) : Int := match bsR l c d with | none => 0 | some x => x.act

/-- The nearest route that covers a prefix. -/
def cvrR (l : List Ro) (p : Pf) : Option Ro := bsR (l.filter fun x => decide (x.p.len < p.len)) p.a p.b

/-- A prefix's route. -/
def fdR (l : List Ro) (p : Pf) : Option Ro := l.find? fun x => decide (x.p = p)

theorem bsR_of {l : List Ro} {c d : BitVec 64} {i : Nat} (hi : i < l.length) (h1 : okR c d (at' l i) = true) (h2 : ∀ j, j < l.length → okR c d (at' l j) = true → lnR (at' l j) ≤ lnR (at' l i) ∧ (j < i → lnR (at' l j) < lnR (at' l i))) : bsR l c d = some (at' l i) := by
  have : bxR l c d = i := (fbX_spec _ _ _ _).uniq (.inr ⟨i, rfl, hi, h1, h2⟩)
  unfold bsR
  rw [this, if_neg (by omega)]; rfl

theorem bsR_none {l : List Ro} {c d : BitVec 64} (h : ∀ j, j < l.length → okR c d (at' l j) = false) : bsR l c d = none := by
  have : bxR l c d = -1 := (fbX_spec _ _ _ _).uniq (.inl ⟨rfl, h⟩)
  unfold bsR
  rw [this, if_pos (by omega)]

theorem bsR_cases (l : List Ro) (c d : BitVec 64) : (bsR l c d = none ∧ ∀ x ∈ l, okR c d x = false) ∨ ∃ x, x ∈ l ∧ bsR l c d = some x ∧ okR c d x = true ∧ ∀ y ∈ l, okR c d y = true → y.p.len ≤ x.p.len := by
  rcases fbX_spec (okR c d) lnR l l.length with ⟨h1, h2⟩ | ⟨i, h1, hi, h2, h3⟩
  · exact .inl ⟨bsR_none h2, fun x hx => by obtain ⟨j, hj, rfl⟩ := mem_at hx; exact h2 j hj⟩
  · exact .inr ⟨at' l i, at_mem hi, bsR_of hi h2 h3, h2, fun y hy hm => by obtain ⟨j, hj, rfl⟩ := mem_at hy; exact (h3 j hj hm).1⟩

theorem okR_tb {w : Int} {l : List Ro} (h : TB w l) {x : Ro} (hx : x ∈ l) (c d : BitVec 64) : okR c d x = mtP x.p c d := by
  obtain ⟨h1, h2, h3, _⟩ := riP_iff.1 (h.rip hx)
  unfold okR
  rw [show decide (0 ≤ x.p.len) = true from by simpa using h2, show decide (x.p.len ≤ 128) = true from by simp; omega]
  simp

theorem bsR_tb {w : Int} {l : List Ro} (h : TB w l) (c d : BitVec 64) : (bsR l c d = none ∧ ∀ x ∈ l, mtP x.p c d = false) ∨ ∃ x, x ∈ l ∧ bsR l c d = some x ∧ mtP x.p c d = true ∧ ∀ y ∈ l, mtP y.p c d = true → y.p.len ≤ x.p.len := by
  rcases bsR_cases l c d with ⟨h1, h2⟩ | ⟨x, hx, h1, h2, h3⟩
  · exact .inl ⟨h1, fun x hx => by rw [← okR_tb h hx]; exact h2 x hx⟩
  · exact .inr ⟨x, hx, h1, by rw [← okR_tb h hx]; exact h2, fun y hy hm => h3 y hy (by rw [okR_tb h hy]; exact hm)⟩

/-- Of a table the longest one that matches is the best one. -/
theorem bsR_max {w : Int} {l : List Ro} (h : TB w l) {c d : BitVec 64} {x : Ro} (hx : x ∈ l) (hm : mtP x.p c d = true) (hl : ∀ y ∈ l, mtP y.p c d = true → y.p.len ≤ x.p.len) : bsR l c d = some x := by
  rcases bsR_tb h c d with ⟨_, h2⟩ | ⟨y, hy, h1, h2, h3⟩
  · rw [h2 x hx] at hm; cases hm
  · rw [h1, Option.some_inj]
    exact h.one hy hx (riP_eq (h.rip hy) (h.rip hx) (Int.le_antisymm (hl y hy h2) (h3 x hx hm)) h2 hm)

theorem shorter_tb {w : Int} {l : List Ro} (h : TB w l) (n : Int) : TB w (l.filter fun x => decide (x.p.len < n)) := h.sub List.filter_sublist

theorem fdR_cases (l : List Ro) (p : Pf) : (fdR l p = none ∧ ∀ x ∈ l, x.p ≠ p) ∨ ∃ x, x ∈ l ∧ x.p = p ∧ fdR l p = some x := by
  unfold fdR
  cases h : l.find? fun x => decide (x.p = p) with
  | none => exact .inl ⟨rfl, fun x hx => by have := List.find?_eq_none.1 h x hx; simpa using this⟩
  | some x => exact .inr ⟨x, List.mem_of_find?_eq_some h, by have := List.find?_some h; simpa using this, rfl⟩

theorem fdR_tb {w : Int} {l : List Ro} (h : TB w l) {x : Ro} (hx : x ∈ l) : fdR l x.p = some x := by
  rcases fdR_cases l x.p with ⟨_, h2⟩ | ⟨y, hy, he, h1⟩
  · exact absurd rfl (h2 x hx)
  · rw [h1, h.one hy hx he]

/-- How many cover one another, one behind the other, at most ('n': no more than so many are looked for). -/
def chF : Nat → List Ro → Int
  | 0, _ => 0
  | n + 1, l => l.foldl (fun m x => if 1 + chF n (unR l x.p) > m then 1 + chF n (unR l x.p) else m) 0

def chR (l : List Ro) : Int := chF l.length l

end Go.Sx.M
end

section
/-
  Layer 6: routes as values of the calculus.
-/
namespace Go.Proofs.Ytnjbgbdcbejciaa.L1
open Go.Sx Go.Sx.M

/-- A prefix's cells; a route's. -/
def pfE (p : Pf) : AV := .agg [.w64 p.a, .w64 p.b, .int .i64 p.len]
def roE (x : Ro) : AV := .agg [.w64 x.p.a, .w64 x.p.b, .int .i64 x.p.len, .int .i64 x.act]

/-- The route of such cells. -/
def deR1 (x : AV) : Ro := ⟨⟨cW (x.cells.getD 0 .any), cW (x.cells.getD 1 .any), cI (x.cells.getD 2 .any)⟩, cI (x.cells.getD 3 .any)⟩

/-- The routes of a row. -/
def deR (l : List AV) : List Ro := l.map deR1

theorem deR_map (l : List Ro) : deR (l.map roE) = l := by
  unfold deR
  rw [List.map_map]
  exact List.map_id l

/-- Rows of routes: the program's, the document's. -/
def pRo : Par := some (73, 4)
def pRefR : Par := some (79, 4)

theorem ro_whole (x : Ro) : partOf Try.prog 73 (roE x).cells 0 = some (roE x) := by kernel_rfl
theorem rr_whole (x : Ro) : partOf Try.prog 79 (roE x).cells 0 = some (roE x) := by kernel_rfl
theorem ro_p (x : Ro) : partOf Try.prog 70 (roE x).cells 0 = some (pfE x.p) := by kernel_rfl
theorem rr_p (x : Ro) : partOf Try.prog 77 (roE x).cells 0 = some (pfE x.p) := by kernel_rfl
theorem ro_len (x : Ro) : partOf Try.prog 3 (roE x).cells 2 = some (.int .i64 x.p.len) := by kernel_rfl
theorem ro_act (x : Ro) : partOf Try.prog 3 (roE x).cells 3 = some (.int .i64 x.act) := by kernel_rfl

/-- What the cells of a route of a law's are. -/
theorem Ro_dec (cs : List Value) (h : fitsAll [.int .u64, .int .u64, .int .i64, .int .i64] cs) : ∃ x : Ro, (roE x).cells.length = 4 ∧ (roE x).sound = true ∧ AVRs [] (roE x).cells cs := by
  obtain ⟨x0, l0, rfl, f0, g0⟩ := fits_cons h
  obtain ⟨x1, l1, rfl, f1, g1⟩ := fits_cons g0
  obtain ⟨x2, l2, rfl, f2, g2⟩ := fits_cons g1
  obtain ⟨x3, l3, rfl, f3, g3⟩ := fits_cons g2
  obtain rfl := fits_nil g3
  obtain ⟨v, rfl⟩ := fits_u64 f0
  obtain ⟨w, rfl⟩ := fits_u64 f1
  obtain ⟨k, rfl, _⟩ := f2
  obtain ⟨j, rfl, _⟩ := f3
  exact ⟨⟨⟨v, w, k⟩, j⟩, rfl, rfl, .cons (.w64 _) (.cons (.w64 _) (.cons (.int _ _) (.cons (.int _ _) .nil)))⟩

end Go.Proofs.Ytnjbgbdcbejciaa.L1
end

section
/-
  Layer 6: contracts of the document's Right, Table, Drop, Find, Under.
-/
namespace Go.Proofs.Ytnjbgbdcbejciaa.L1
open Go.Sx Go.Sx.M

theorem tbR_def {w : Int} {l : List Ro} : tbR w l = true ↔ (w = 32 ∨ w = 128) ∧ l.length ≤ 256 ∧ (∀ i, i < l.length → riR w (at' l i) = true) ∧ ∀ i, i < l.length → 0 < i → cpP (at' l (i - 1)).p (at' l i).p < 0 := by
  unfold tbR; rw [decide_eq_true_eq]

def rtSt (l : List Ro) (w : Int) (p : Nat) : St := ⟨[.int .i64 w, .vsl 0 0 (l.map roE).length, .any, .any, .any, .int .i64 p, .any, .any, .any, .any, .any, .any, .any, .any, .any, .any, .any, .any, .any, .any, .any, .any, .any, .any, .any, .any, .any, .any, .any, .any, .any, .any, .any, .any, .any, .any, .any, .any, .any, .any, .any, .any, .any, .any, .any, .any, .any, .any, .any], [some ⟨false, 79, 4, true, l.map roE⟩]⟩
def rtM0 : Modes := ⟨[1, 1, 0, 0, 0, 2, 0, 0, 0, 0, 0, 0, 0, 0, 0, 0, 0, 0, 0, 0, 0, 0, 0, 0, 0, 0, 0, 0, 0, 0, 0, 0, 0, 0, 0, 0, 0, 0, 0, 0, 0, 0, 0, 0, 0, 0, 0, 0, 0], [], [], [], []⟩
def rtM : Modes := ⟨[1, 1, 0, 0, 0, 1, 0, 0, 0, 0, 0, 0, 0, 0, 0, 0, 0, 0, 0, 0, 0, 0, 0, 0, 0, 0, 0, 0, 0, 0, 0, 0, 0, 0, 0, 0, 0, 0, 0, 0, 0, 0, 0, 0, 0, 0, 0, 0, 0], [], [], [], []⟩
def rtM' : Modes := ⟨[1, 1, 0, 0, 2, 0, 0, 0, 0, 0, 0, 0, 0, 0, 0, 0, 0, 0, 0, 0, 0, 0, 0, 0, 0, 0, 0, 0, 0, 0, 0, 0, 0, 0, 0, 0, 0, 0, 0, 0, 0, 0, 0, 0, 0, 0, 0, 0, 0], [], [], [], []⟩
def rtI (l : List Ro) (w : Int) (p : Nat) : Prop := p ≤ l.length ∧ ∀ i, i < p → riR w (at' l i) = true ∧ (0 < i → cpP (at' l (i - 1)).p (at' l i).p < 0)
def rtH (l : List Ro) (w : Int) : List Hint := [.linv _ 0 (rtSt l w) (rtI l w) (fun p => l.length + 1 - p) rtM0 rtM rtM' (fun _ => [.fork [] [.fork [] []]]) fun p =>
  [.fork [.dy, .cell (roE (at' l p)), .fork [] [.fork [.nw, .dy, .cell (pfE (at' l (p - 1)).p), .dy, .cell (pfE (at' l p).p), .fork [] [.nw]] [.nw]]] []]]

def rrrF : List Arg → (Res → Prop) → Prop
  | [.v (.int .i64 w), .v (.agg [.w64 a, .w64 b, .int .i64 k, .int .i64 j])], R => R (.v (.bool (riR w ⟨⟨a, b, k⟩, j⟩)))
  | _, _ => False

noncomputable def rrrCs : List (FuncId × Sx.Spec) := [(101, genSpec [none, none] rightF)]

theorem rrr_run (w : Int) (a b : BitVec 64) (k j : Int) (r : AV) : run rrrCs Try.prog 70 [.int .i64 w, .agg [.w64 a, .w64 b, .int .i64 k, .int .i64 j]] [] [.fork [.fork [] []] []] (yields (.v r)) =
    ((rightB w a b k = true → (Decidable.decide (j ≥ (1 : Int)) = true → AV.bool (Decidable.decide (j ≤ (255 : Int))) = r) ∧ (Decidable.decide (j ≥ (1 : Int)) = false → AV.bool false = r)) ∧ (rightB w a b k = false → AV.bool false = r)) := by kernel_rfl

theorem rrrCs_ok : ∀ e ∈ rrrCs, SpecOK Try.prog e.1 e.2 := by
  intro e he
  simp only [rrrCs, List.mem_cons, List.not_mem_nil, or_false] at he
  rcases he with rfl
  · exact rright_ok

theorem rrr_ok : SpecOK Try.prog 70 (genSpec [none, none] rrrF) := by
  refine genSpec_ok (run_ok (l := rrrCs) rrrCs_ok mixed noNG) fun l R hF => ?_
  unfold rrrF at hF
  split at hF
  · rename_i w a b k j
    refine ⟨_, hF, rfl, [.fork [.fork [] []] []], ?_⟩
    show run rrrCs Try.prog _ [.int .i64 w, .agg [.w64 a, .w64 b, .int .i64 k, .int .i64 j]] [] _ _
    rw [rrr_run]
    refine ⟨fun h => ⟨fun h1 => ?_, fun h1 => ?_⟩, fun h => ?_⟩
    · rw [show riR w ⟨⟨a, b, k⟩, j⟩ = (rightB w a b k && (decide (j ≥ 1) && decide (j ≤ 255))) from rfl, h, h1]; rfl
    · rw [show riR w ⟨⟨a, b, k⟩, j⟩ = (rightB w a b k && (decide (j ≥ 1) && decide (j ≤ 255))) from rfl, h, h1]; rfl
    · rw [show riR w ⟨⟨a, b, k⟩, j⟩ = (rightB w a b k && (decide (j ≥ 1) && decide (j ≤ 255))) from rfl, h]; rfl
  · exact hF.elim


def rrtableF : List Arg → (Res → Prop) → Prop
  | [.v (.int .i64 w), .row r_l], R => r_l = (deR r_l).map roE ∧ (deR r_l).length ≤ 9223372036854775807 ∧ R (.v (.bool (tbR w (deR r_l))))
  | _, _ => False

noncomputable def rrtableCs : List (FuncId × Sx.Spec) := [(70, genSpec [none, none] rrrF),
  (71, genSpec [none, none] cmppF)]

theorem rrtable_run (w : Int) (l : List Ro) (r : AV) : run rrtableCs Try.prog 36 [.int .i64 w, .vsl 0 0 (l.map roE).length] [some ⟨false, (pRefR.getD (0, 0)).1, (pRefR.getD (0, 0)).2, true, (l.map roE)⟩] (rtH l w) (yields (.v r)) =
    ((St.mk [AV.int IntKind.i64 w, AV.vsl 0 0 (List.length (List.map roE l)), .any, .any, .any, AV.int IntKind.i64 0, .any, .any, .any, .any, .any, .any, .any, .any, .any, .any, .any, .any, .any, .any, .any, .any, .any, .any, .any, .any, .any, .any, .any, .any, .any, .any, .any, .any, .any, .any, .any, .any, .any, .any, .any, .any, .any, .any, .any, .any, .any, .any, .any] [some (Blk.mk false (79 : TypeId) 4 true (List.map roE l))] = rtSt l w 0 ∧ rtI l w 0) ∧ ∀ (p : Nat), rtI l w p → (Decidable.decide ((↑p : Int) < (↑(List.length (List.map roE l)) : Int)) = true → ((0 : Int) ≤ (↑p : Int) ∧ (↑p : Int) < (↑(List.length (List.map roE l)) : Int)) ∧ Blk.read Proofs.Try.prog (Blk.mk false (79 : TypeId) 4 true (List.map roE l)) 79 ((0 : Nat) + Int.toNat (↑p : Int)) 0 = some (AV.agg [AV.w64 (Ro.p (at' l p)).1, AV.w64 (Ro.p (at' l p)).2, AV.int IntKind.i64 (Ro.p (at' l p)).3, AV.int IntKind.i64 (at' l p).2]) ∧ ((!riR w (Ro.mk (Pf.mk (Ro.p (at' l p)).1 (Ro.p (at' l p)).2 (Ro.p (at' l p)).3) (at' l p).2)) = true → AV.bool false = r) ∧ ((!riR w (Ro.mk (Pf.mk (Ro.p (at' l p)).1 (Ro.p (at' l p)).2 (Ro.p (at' l p)).3) (at' l p).2)) = false → (Decidable.decide ((↑p : Int) > (0 : Int)) = true → inRange IntKind.i64 ((↑p : Int) - (1 : Int)) ∧ ((0 : Int) ≤ (↑p : Int) - (1 : Int) ∧ (↑p : Int) - (1 : Int) < (↑(List.length (List.map roE l)) : Int)) ∧ Blk.read Proofs.Try.prog (Blk.mk false (79 : TypeId) 4 true (List.map roE l)) 77 ((0 : Nat) + Int.toNat ((↑p : Int) - (1 : Int))) ((0 : Nat) + (0 : Nat)) = some (AV.agg [AV.w64 (Ro.p (at' l (p - (1 : Nat)))).1, AV.w64 (Ro.p (at' l (p - (1 : Nat)))).2, AV.int IntKind.i64 (Ro.p (at' l (p - (1 : Nat)))).3]) ∧ ((0 : Int) ≤ (↑p : Int) ∧ (↑p : Int) < (↑(List.length (List.map roE l)) : Int)) ∧ Blk.read Proofs.Try.prog (Blk.mk false (79 : TypeId) 4 true (List.map roE l)) 77 ((0 : Nat) + Int.toNat (↑p : Int)) ((0 : Nat) + (0 : Nat)) = some (AV.agg [AV.w64 (Ro.p (at' l p)).1, AV.w64 (Ro.p (at' l p)).2, AV.int IntKind.i64 (Ro.p (at' l p)).3]) ∧ (Decidable.decide (cmpP (Ro.p (at' l (p - (1 : Nat)))).1 (Ro.p (at' l (p - (1 : Nat)))).2 (Ro.p (at' l (p - (1 : Nat)))).3 (Ro.p (at' l p)).1 (Ro.p (at' l p)).2 (Ro.p (at' l p)).3 ≥ (0 : Int)) = true → AV.bool false = r) ∧ (Decidable.decide (cmpP (Ro.p (at' l (p - (1 : Nat)))).1 (Ro.p (at' l (p - (1 : Nat)))).2 (Ro.p (at' l (p - (1 : Nat)))).3 (Ro.p (at' l p)).1 (Ro.p (at' l p)).2 (Ro.p (at' l p)).3 ≥ (0 : Int)) = false → inRange IntKind.i64 ((↑p : Int) + (1 : Int)) ∧ ∃ (p' : Nat), St.mk [AV.int IntKind.i64 w, AV.vsl 0 0 (List.length (List.map roE l)), .any, .any, .any, AV.int IntKind.i64 ((↑p : Int) + (1 : Int)), .any, .any, .any, .any, .any, .any, .any, .any, .any, .any, .any, .any, .any, .any, .any, .any, .any, .any, .any, .any, .any, .any, .any, .any, .any, .any, .any, .any, .any, .any, .any, .any, .any, .any, .any, .any, .any, .any, .any, .any, .any, .any, .any] [some (Blk.mk false (79 : TypeId) 4 true (List.map roE l))] = rtSt l w p' ∧ rtI l w p' ∧ List.length l + (1 : Nat) - p' < List.length l + (1 : Nat) - p)) ∧ (Decidable.decide ((↑p : Int) > (0 : Int)) = false → inRange IntKind.i64 ((↑p : Int) + (1 : Int)) ∧ ∃ (p' : Nat), St.mk [AV.int IntKind.i64 w, AV.vsl 0 0 (List.length (List.map roE l)), .any, .any, .any, AV.int IntKind.i64 ((↑p : Int) + (1 : Int)), .any, .any, .any, .any, .any, .any, .any, .any, .any, .any, .any, .any, .any, .any, .any, .any, .any, .any, .any, .any, .any, .any, .any, .any, .any, .any, .any, .any, .any, .any, .any, .any, .any, .any, .any, .any, .any, .any, .any, .any, .any, .any, .any] [some (Blk.mk false (79 : TypeId) 4 true (List.map roE l))] = rtSt l w p' ∧ rtI l w p' ∧ List.length l + (1 : Nat) - p' < List.length l + (1 : Nat) - p))) ∧ (Decidable.decide ((↑p : Int) < (↑(List.length (List.map roE l)) : Int)) = false → ((w == (32 : Int)) = true → AV.bool (Decidable.decide ((↑(List.length (List.map roE l)) : Int) ≤ (256 : Int))) = r) ∧ ((w == (32 : Int)) = false → ((w == (128 : Int)) = true → AV.bool (Decidable.decide ((↑(List.length (List.map roE l)) : Int) ≤ (256 : Int))) = r) ∧ ((w == (128 : Int)) = false → AV.bool false = r)))) := by kernel_rfl

theorem rrtableCs_ok : ∀ e ∈ rrtableCs, SpecOK Try.prog e.1 e.2 := by
  intro e he
  simp only [rrtableCs, List.mem_cons, List.not_mem_nil, or_false] at he
  rcases he with rfl | rfl
  · exact rrr_ok
  · exact rcmp_ok

theorem rrtable_ok : SpecOK Try.prog 36 (genSpec [none, pRefR] rrtableF) := by
  refine genSpec_ok (run_ok (l := rrtableCs) rrtableCs_ok mixed noNG) fun l R hF => ?_
  unfold rrtableF at hF
  split at hF
  · rename_i w r_l
    obtain ⟨hr_l, hl, hF⟩ := hF
    generalize deR r_l = l at hr_l hl hF
    subst hr_l
    refine ⟨_, hF, rfl, (rtH l w), ?_⟩
    show run rrtableCs Try.prog _ [.int .i64 w, .vsl 0 0 (l.map roE).length] [some ⟨false, (pRefR.getD (0, 0)).1, (pRefR.getD (0, 0)).2, true, (l.map roE)⟩] _ _
    rw [rrtable_run]
    refine ⟨⟨rfl, Nat.zero_le _, fun i hi => by omega⟩, ?_⟩
    rintro p ⟨h1, h2⟩
    refine ⟨fun hlt => ?_, fun hge => ?_⟩
    · have hp : p < l.length := by simp only [decide_eq_true_eq, List.length_map] at hlt; omega
      have B : 0 ≤ (p : Int) ∧ (p : Int) < ((l.map roE).length : Int) := by rw [List.length_map]; omega
      have nx : riR w (at' l p) = true → (0 < p → cpP (at' l (p - 1)).p (at' l p).p < 0) → inRange .i64 ((p : Int) + 1) ∧ ∃ p', rtSt l w (p + 1) = rtSt l w p' ∧ rtI l w p' ∧ l.length + 1 - p' < l.length + 1 - p := fun g1 g2 => ⟨inR (by omega) (by omega), p + 1, rfl, ⟨by omega, up h2 ⟨g1, g2⟩⟩, by omega⟩
      refine ⟨B, read_rows B.1 B.2 (rr_whole _), fun hr => ?_, fun hr => ⟨fun h0 => ?_, fun h0 => nx (by simpa using hr) fun h => ?_⟩⟩
      · have hr : riR w (at' l p) = false := by simpa using hr
        rw [notT tbR_def fun h => by have := h.2.2.1 p hp; rw [hr] at this; cases this]
      · have h0 : 0 < p := by simp only [decide_eq_true_eq] at h0; omega
        have e1 : ((p : Int) - 1).toNat = p - 1 := by omega
        refine ⟨inR (by omega) (by omega), ⟨by omega, by omega⟩, read_rows (by omega) (by omega) (by rw [e1]; exact rr_p _), B, read_rows B.1 B.2 (rr_p _), fun hc => ?_, fun hc => nx (by simpa using hr) fun _ => ?_⟩
        · have hc : cpP (at' l (p - 1)).p (at' l p).p ≥ 0 := of_decide_eq_true hc
          rw [notT tbR_def fun h => by have := h.2.2.2 p hp h0; omega]
        · have hc : ¬ cpP (at' l (p - 1)).p (at' l p).p ≥ 0 := of_decide_eq_false hc
          omega
      · simp only [decide_eq_false_iff_not] at h0; omega
    · have hp : p = l.length := by simp only [decide_eq_false_iff_not, List.length_map] at hge; omega
      subst hp
      have tb : (w = 32 ∨ w = 128) → tbR w l = decide (((l.map roE).length : Int) ≤ 256) := fun hw => by
        rw [Bool.eq_iff_iff, tbR_def, decide_eq_true_eq, List.length_map]
        exact ⟨fun h => by have := h.2.1; omega, fun h => ⟨hw, by omega, fun i hi => (h2 i hi).1, fun i hi => (h2 i hi).2⟩⟩
      refine ⟨fun hw => ?_, fun hw => ⟨fun hw2 => ?_, fun hw2 => ?_⟩⟩
      · rw [tb (.inl (by simpa using hw))]
      · rw [tb (.inr (by simpa using hw2))]
      · have a1 : w ≠ 32 := by simpa using hw
        have a2 : w ≠ 128 := by simpa using hw2
        rw [notT tbR_def fun h => by rcases h.1 with h | h <;> contradiction]
  · exact hF.elim


end Go.Proofs.Ytnjbgbdcbejciaa.L1
end

section
/-
  Layer 6: contracts of the document's Put, Best, Tell, Cover, Chain.
-/
namespace Go.Proofs.Ytnjbgbdcbejciaa.L1
open Go.Sx Go.Sx.M

theorem mem_take {l : List Ro} {n : Nat} {x : Ro} (hx : x ∈ l.take n) : ∃ i, i < n ∧ i < l.length ∧ at' l i = x := by
  obtain ⟨i, hi, rfl⟩ := mem_at hx
  rw [List.length_take] at hi
  refine ⟨i, by omega, by omega, ?_⟩
  unfold at'
  rw [List.getD_eq_getElem?_getD, List.getD_eq_getElem?_getD, List.getElem?_take, if_pos (by omega)]

end Go.Proofs.Ytnjbgbdcbejciaa.L1
end

section
/-
  Layer 6: contracts of the document's Cover, Chain; of the law's One, Of, Same, table.
-/
namespace Go.Proofs.Ytnjbgbdcbejciaa.L1
open Go.Sx Go.Sx.M

/-- Chains, of rows of less than N. -/
def chnF (N : Nat) : List Arg → (Res → Prop) → Prop
  | [.row r_l], R => r_l = (deR r_l).map roE ∧ (deR r_l).length ≤ 1000000 ∧ (deR r_l).length < N ∧ R (.v (.int .i64 (chR (deR r_l))))
  | _, _ => False

def ofrSt (F : List Ro → List AV) (l : List Ro) (p : Nat) : St :=
  ⟨[.any, .any, .any, .vsl 1 0 p, .any, .any, .vsl 0 0 (l.map roE).length, .int .i64 (l.map roE).length, .int .i64 p, .any, .any, .any, .any, .any, .any, .any, .any, .any, .any], [some ⟨false, 73, 4, true, l.map roE⟩, some ⟨true, 79, 4, true, F (l.take p)⟩]⟩
def ofrM0 : Modes := ⟨[0, 0, 0, 1, 0, 0, 1, 1, 2, 0, 0, 0, 0, 0, 0, 0, 0, 0, 0], [], [], [], [(3, 79, 4)]⟩
def ofrM : Modes := ⟨[0, 0, 0, 1, 0, 0, 1, 1, 1, 0, 0, 0, 0, 0, 0, 0, 0, 0, 0], [], [], [], []⟩
def ofrH (F : List Ro → List AV) (l : List Ro) : List Hint := [.linv _ 0 (ofrSt F l) (fun p => p ≤ l.length) (fun p => l.length + 1 - p) ofrM0 ofrM ofrM (fun _ => []) fun p =>
  [.fork [.dy, .cell (roE (at' l p)), .rows (F (l.take (p + 1))), .nw] []]]

def of6F : List Arg → (Res → Prop) → Prop
  | [.row r_l], R => r_l = (deR r_l).map roE ∧ (deR r_l).length ≤ 1000000 ∧ R (.vrow 79 4 ((deR r_l).map roE))
  | _, _ => False

theorem of6_run (l : List Ro) (F : List Ro → List AV) (es : List AV) : run [] Try.prog 14 [.vsl 0 0 (l.map roE).length] [some ⟨false, (pRo.getD (0, 0)).1, (pRo.getD (0, 0)).2, true, (l.map roE)⟩] (ofrH F l) (yields (.vrow 79 4 es)) =
    ((St.mk [.any, .any, .any, AV.vsl (List.length [some (Blk.mk false (73 : TypeId) 4 true (List.map roE l))]) 0 0, .any, .any, AV.vsl 0 0 (List.length (List.map roE l)), AV.int IntKind.i64 (↑(List.length (List.map roE l)) : Int), AV.int IntKind.i64 0, .any, .any, .any, .any, .any, .any, .any, .any, .any, .any] ([some (Blk.mk false (73 : TypeId) 4 true (List.map roE l))] ++ [some (Blk.mk true (79 : TypeId) 4 true [])]) = ofrSt F l 0 ∧ Nat.le 0 (List.length l)) ∧ ∀ (p : Nat), Nat.le p (List.length l) → (Decidable.decide ((↑p : Int) < (↑(List.length (List.map roE l)) : Int)) = true → ((0 : Int) ≤ (↑p : Int) ∧ (↑p : Int) < (↑(List.length (List.map roE l)) : Int)) ∧ Blk.read Proofs.Try.prog (Blk.mk false (73 : TypeId) 4 true (List.map roE l)) 73 ((0 : Nat) + Int.toNat (↑p : Int)) 0 = some (AV.agg [AV.w64 (Ro.p (at' l p)).1, AV.w64 (Ro.p (at' l p)).2, AV.int IntKind.i64 (Ro.p (at' l p)).3, AV.int IntKind.i64 (at' l p).2]) ∧ ((p + (1 : Nat)) * (32 : Nat) ≤ (140737488355328 : Nat) ∧ p + (1 : Nat) ≤ (9223372036854775807 : Nat) ∧ (0 : Nat) + (1 : Nat) ≤ List.length [AV.agg [AV.w64 (Ro.p (at' l p)).1, AV.w64 (Ro.p (at' l p)).2, AV.int IntKind.i64 (Ro.p (at' l p)).3, AV.int IntKind.i64 (at' l p).2]] ∧ p ≤ List.length (F (List.take p l))) ∧ List.take p (F (List.take p l)) ++ [AV.agg [AV.w64 (Ro.p (at' l p)).1, AV.w64 (Ro.p (at' l p)).2, AV.int IntKind.i64 (Ro.p (at' l p)).3, AV.int IntKind.i64 (at' l p).2]] = F (List.take (p + (1 : Nat)) l) ∧ inRange IntKind.i64 ((↑p : Int) + (1 : Int)) ∧ ∃ (p' : Nat), St.mk [.any, .any, .any, AV.vsl ((0 : Nat) + (1 : Nat)) 0 (p + (1 : Nat)), .any, .any, AV.vsl 0 0 (List.length (List.map roE l)), AV.int IntKind.i64 (↑(List.length (List.map roE l)) : Int), AV.int IntKind.i64 ((↑p : Int) + (1 : Int)), .any, .any, .any, .any, .any, .any, .any, .any, .any, .any] [some (Blk.mk false (73 : TypeId) 4 true (List.map roE l)), some (Blk.mk true 79 4 true (F (List.take (p + (1 : Nat)) l)))] = ofrSt F l p' ∧ Nat.le p' (List.length l) ∧ List.length l + (1 : Nat) - p' < List.length l + (1 : Nat) - p) ∧ (Decidable.decide ((↑p : Int) < (↑(List.length (List.map roE l)) : Int)) = false → p = List.length es ∧ some (Blk.mk true (79 : TypeId) 4 true (F (List.take p l))) = some (Blk.mk true (79 : TypeId) 4 true es))) := by kernel_rfl

theorem of6_ok : SpecOK Try.prog 14 (genSpec [pRo] of6F) := by
  refine genSpec_ok none_ok fun l R hF => ?_
  unfold of6F at hF
  split at hF
  · rename_i r_l
    obtain ⟨hr_l, hl, hF⟩ := hF
    generalize deR r_l = l at hr_l hl hF
    subst hr_l
    refine ⟨_, hF, trivial, (ofrH (List.map roE) l), ?_⟩
    show run [] Try.prog _ [.vsl 0 0 (l.map roE).length] [some ⟨false, (pRo.getD (0, 0)).1, (pRo.getD (0, 0)).2, true, (l.map roE)⟩] _ _
    rw [of6_run]
    have lt : ∀ p, p ≤ l.length → ((l.take p).map roE).length = p := fun p hp => by rw [List.length_map, List.length_take]; omega
    refine ⟨⟨rfl, Nat.zero_le _⟩, ?_⟩
    intro p hp
    have hp : p ≤ l.length := hp
    refine ⟨fun hlt => ?_, fun hge => ?_⟩
    · have hlt : p < l.length := by simp only [decide_eq_true_eq, List.length_map] at hlt; omega
      have B : 0 ≤ (p : Int) ∧ (p : Int) < ((l.map roE).length : Int) := by rw [List.length_map]; omega
      refine ⟨B, read_rows B.1 B.2 (ro_whole _), ⟨by omega, by omega, by simp, by rw [lt p hp]; omega⟩, ?_, inR (by omega) (by omega), p + 1, rfl, (by omega : p + 1 ≤ l.length), by omega⟩
      rw [List.take_of_length_le (by rw [lt p hp]; omega), List.take_add_one, at_get hlt, List.map_append]
      rfl
    · have hp : p = l.length := by simp only [decide_eq_false_iff_not, List.length_map] at hge; omega
      subst hp
      rw [List.take_length, List.length_map]
      exact ⟨rfl, rfl⟩
  · exact hF.elim


end Go.Proofs.Ytnjbgbdcbejciaa.L1
end

section
/-
  Layer 6: what the contracts of the program's calls on routes say.
-/
namespace Go.Proofs.Ytnjbgbdcbejciaa.L1
open Go.Sx Go.Sx.M

end Go.Proofs.Ytnjbgbdcbejciaa.L1
end

section
/-
  Layer 6: how many routes of a table cover one another, by how many cover each: plain mathematics.
-/
namespace Go.Sx.M
open Go.Proofs.Ytnjbgbdcbejciaa.L1

/-- A table's order, by places. -/
theorem TB.at {w : Int} {l : List Ro} (h : TB w l) {i j : Nat} (hij : i < j) (hj : j < l.length) : cpP (at' l i).p (at' l j).p < 0 := by
  have hi : i < l.length := by omega
  have := List.pairwise_iff_getElem.1 h.sorted i j hi hj hij
  have e1 : l[i] = at' l i := by have := at_get hi; rw [List.getElem?_eq_getElem hi] at this; exact Option.some_inj.1 this
  have e2 : l[j] = at' l j := by have := at_get hj; rw [List.getElem?_eq_getElem hj] at this; exact Option.some_inj.1 this
  rw [e1, e2] at this
  exact this

/-- One covers another, and is not it. -/
def ovP (p q : Pf) : Bool := !decide (q = p) && cvP p q

theorem ovP_iff {p q : Pf} : ovP p q = true ↔ q ≠ p ∧ cvP p q = true := by unfold ovP; simp

/-- What covers another one that may be stands ahead of it. -/
theorem ovP_lt {w w' : Int} {p q : Pf} (hp : riP w p = true) (hq : riP w' q = true) (h : ovP p q = true) : cpP p q < 0 := by
  obtain ⟨hn, hc⟩ := ovP_iff.1 h
  obtain ⟨_, p1, p2, p3⟩ := riP_iff.1 hp
  obtain ⟨_, q1, q2, q3⟩ := riP_iff.1 hq
  obtain ⟨c1, c2⟩ := cvP_iff.1 hc
  have hle : V p.a p.b ≤ V q.a q.b := V_sub fun i hi hb => by
    by_cases h' : (i : Int) < p.len
    · rw [← c2 i hi h']; exact hb
    · rw [p3 i hi (by omega)] at hb; cases hb
  rw [cpP_lt]
  rcases Nat.lt_or_eq_of_le hle with h' | h'
  · exact .inl h'
  · refine .inr ⟨h', ?_⟩
    rcases Int.lt_or_eq_of_le c1 with h2 | h2
    · exact h2
    · exact absurd (riP_eq hq hp h2.symm (c := q.a) (d := q.b) (mtP_iff.2 fun i _ _ => rfl) (mtP_iff.2 c2)) hn

/-- Of two that cover a third one, the one ahead covers the other. -/
theorem ovP_two {w : Int} {y z x : Pf} (hy : riP w y = true) (hz : riP w z = true) (h1 : ovP y x = true) (h2 : ovP z x = true) (h : cpP y z < 0) : ovP y z = true := by
  obtain ⟨a1, a2⟩ := cvP_iff.1 (ovP_iff.1 h1).2
  obtain ⟨b1, b2⟩ := cvP_iff.1 (ovP_iff.1 h2).2
  have hne : z ≠ y := fun e => by rw [e, cpP_self] at h; omega
  by_cases hl : y.len ≤ z.len
  · exact ovP_iff.2 ⟨hne, cvP_iff.2 ⟨hl, fun i hi hi2 => by rw [a2 i hi hi2, b2 i hi (by omega)]⟩⟩
  · have := ovP_lt hz hy (ovP_iff.2 ⟨fun e => hne e.symm, cvP_iff.2 ⟨by omega, fun i hi hi2 => by rw [b2 i hi hi2, a2 i hi (by omega)]⟩⟩)
    have := cpP_trans h this
    rw [cpP_self] at this
    omega

/-- What covers a prefix. -/
def cvL (l : List Ro) (q : Pf) : List Ro := l.filter fun y => ovP y.p q

theorem mem_cvL {l : List Ro} {q : Pf} {x : Ro} : x ∈ cvL l q ↔ x ∈ l ∧ ovP x.p q = true := by
  unfold cvL; rw [List.mem_filter]

/-- What stands between a prefix and one that it covers is covered, too. -/
theorem ovP_between {w : Int} {y m x : Pf} (hy : riP w y = true) (hm : riP w m = true) (h : ovP y x = true) (h1 : cpP y m < 0) (h2 : cpP m x < 0) : ovP y m = true := by
  obtain ⟨a1, a2⟩ := cvP_iff.1 (ovP_iff.1 h).2
  obtain ⟨_, y1, y2, y3⟩ := riP_iff.1 hy
  obtain ⟨_, m1, m2, m3⟩ := riP_iff.1 hm
  have hne : m ≠ y := fun e => by rw [e, cpP_self] at h1; omega
  have ym : V y.a y.b ≤ V m.a m.b := by rcases cpP_lt.1 h1 with h | h <;> omega
  have mx : V m.a m.b ≤ V x.a x.b := by rcases cpP_lt.1 h2 with h | h <;> omega
  -- bit for bit, up to y's length
  have bits : ∀ n : Nat, n ≤ 128 → (n : Int) ≤ y.len → ∀ i, i < n → bitAt y.a y.b i = bitAt m.a m.b i := by
    intro n
    induction n with
    | zero => intro _ _ i hi; omega
    | succ n ih =>
      intro hn hl i hi
      have ih' := ih (by omega) (by omega)
      rcases Nat.lt_or_eq_of_le (Nat.le_of_lt_succ hi) with h' | rfl
      · exact ih' i h'
      · have xy : bitAt y.a y.b i = bitAt x.a x.b i := a2 i (by omega) (by omega)
        cases hb : bitAt m.a m.b i with
        | true =>
          cases hc : bitAt y.a y.b i with
          | true => rfl
          | false =>
            have := V_less (a := x.a) (b := x.b) (c := m.a) (d := m.b) (n := i) (by omega) (fun k hk => by rw [← a2 k (by omega) (by omega)]; exact ih' k hk) (by rw [← xy]; exact hc) hb
            omega
        | false =>
          cases hc : bitAt y.a y.b i with
          | false => rfl
          | true =>
            have := V_less (a := m.a) (b := m.b) (c := y.a) (d := y.b) (n := i) (by omega) (fun k hk => (ih' k hk).symm) hb hc
            omega
  have all : ∀ i : Nat, i < 128 → (i : Int) < y.len → bitAt y.a y.b i = bitAt m.a m.b i := fun i hi hl => bits (i + 1) (by omega) (by omega) i (by omega)
  refine ovP_iff.2 ⟨hne, cvP_iff.2 ⟨?_, all⟩⟩
  by_cases hl : y.len ≤ m.len
  · exact hl
  · exfalso
    have e : V m.a m.b ≤ V y.a y.b := V_sub fun i hi hb => by
      by_cases h' : (i : Int) < m.len
      · rw [all i hi (by omega)]; exact hb
      · rw [m3 i hi (by omega)] at hb; cases hb
    rcases cpP_lt.1 h1 with h' | h'
    · omega
    · omega

/- The best route and the nearest one, by a walk over a table, or by its order. -/

/-- Of two that match an address, the one ahead is the shorter one. -/
theorem mt_order {w : Int} {y z : Pf} {c d : BitVec 64} (hy : riP w y = true) (hz : riP w z = true) (h1 : mtP y c d = true) (h2 : mtP z c d = true) (h : cpP y z < 0) : y.len < z.len := by
  by_cases hl : y.len < z.len
  · exact hl
  · exfalso
    have e : z ≠ y := fun e => by rw [e, cpP_self] at h; omega
    have := ovP_lt hz hy (ovP_iff.2 ⟨fun e' => e e'.symm, cvP_iff.2 ⟨by omega, fun i hi hi2 => by rw [mtP_iff.1 h2 i hi hi2, mtP_iff.1 h1 i hi (by omega)]⟩⟩)
    have := cpP_trans h this
    rw [cpP_self] at this
    omega

theorem bsR_noneT {w : Int} {l : List Ro} (h : TB w l) {c d : BitVec 64} (hl : ∀ j, j < l.length → mtP (at' l j).p c d = false) : bsR l c d = none :=
  bsR_none fun j hj => by rw [okR_tb h (at_mem hj)]; exact hl j hj

/-- To cover, and not to be it: to match its address, and to be shorter. -/
theorem ovP_short {w w' : Int} {p q : Pf} (hp : riP w p = true) (hq : riP w' q = true) : ovP p q = true ↔ p.len < q.len ∧ mtP p q.a q.b = true := by
  rw [ovP_iff, cvP_iff, mtP_iff]
  constructor
  · rintro ⟨h1, h2, h3⟩
    refine ⟨?_, h3⟩
    rcases Int.lt_or_eq_of_le h2 with h | h
    · exact h
    · exact absurd (riP_eq hq hp h.symm (c := q.a) (d := q.b) (mtP_iff.2 fun i _ _ => rfl) (mtP_iff.2 h3)) h1
  · rintro ⟨h1, h2⟩
    exact ⟨fun e => by rw [e] at h1; omega, Int.le_of_lt h1, h2⟩

theorem mem_short {l : List Ro} {n : Int} {x : Ro} : x ∈ l.filter (fun x => decide (x.p.len < n)) ↔ x ∈ l ∧ x.p.len < n := by
  rw [List.mem_filter, decide_eq_true_eq]

theorem cvrR_none {w w' : Int} {l : List Ro} (h : TB w l) {p : Pf} (hp : riP w' p = true) (hl : ∀ j, j < l.length → ovP (at' l j).p p = false) : cvrR l p = none := by
  rcases bsR_tb (shorter_tb h p.len) p.a p.b with ⟨h1, _⟩ | ⟨x, hx, _, h2, _⟩
  · exact h1
  · obtain ⟨a, b⟩ := mem_short.1 hx
    obtain ⟨j, hj, rfl⟩ := mem_at a
    have := (ovP_short (h.rip a) hp).2 ⟨b, h2⟩
    rw [hl j hj] at this
    cases this

theorem cvrR_max {w w' : Int} {l : List Ro} (h : TB w l) {p : Pf} (hp : riP w' p = true) {x : Ro} (hx : x ∈ l) (ho : ovP x.p p = true) (hm : ∀ y ∈ l, ovP y.p p = true → y.p.len ≤ x.p.len) : cvrR l p = some x := by
  obtain ⟨a, b⟩ := (ovP_short (h.rip hx) hp).1 ho
  exact bsR_max (shorter_tb h p.len) (mem_short.2 ⟨hx, a⟩) b fun y hy hy2 => by
    obtain ⟨c, d⟩ := mem_short.1 hy
    exact hm y c ((ovP_short (h.rip c) hp).2 ⟨d, hy2⟩)

end Go.Sx.M
end

