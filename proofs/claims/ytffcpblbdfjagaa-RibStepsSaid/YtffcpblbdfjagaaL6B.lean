/-
  Layer 6: contracts of the document's Put, Best, Tell, Cover, Chain.
-/
import Derived.Test.YtffcpblbdfjagaaL6A
namespace Go.Proofs.Ytffcpblbdfjagaa.L1
open Go.Sx Go.Sx.M

/-- Is one of the first n above a prefix? -/
def abv (l : List Ro) (q : Pf) (n : Nat) : Bool := decide (∃ i, i < n ∧ cpP (at' l i).p q > 0)

/-- What has been put so far. -/
def ptG (l : List Ro) (r : Ro) (n : Nat) : List Ro := if abv l r.p n then inR' (l.take n) r else l.take n

theorem inR_all {l : List Ro} {r : Ro} (h : ∀ y ∈ l, cpP y.p r.p ≤ 0) : inR' l r = l ++ [r] := by
  unfold inR'
  induction l with
  | nil => rfl
  | cons y l ih =>
    rw [List.takeWhile_cons_of_pos (by simpa using h y (by simp)), List.dropWhile_cons_of_pos (by simpa using h y (by simp)), List.cons_append, ih fun z hz => h z (by simp [hz])]
    rfl

theorem inR_app {l : List Ro} {r : Ro} (m : List Ro) (h : ∃ y ∈ l, cpP y.p r.p > 0) : inR' (l ++ m) r = inR' l r ++ m := by
  unfold inR'
  induction l with
  | nil => obtain ⟨y, hy, _⟩ := h; cases hy
  | cons y l ih =>
    by_cases hc : cpP y.p r.p ≤ 0
    · have h' : ∃ z ∈ l, cpP z.p r.p > 0 := by
        obtain ⟨z, hz, hp⟩ := h
        rcases List.mem_cons.1 hz with rfl | hz
        · omega
        · exact ⟨z, hz, hp⟩
      rw [List.cons_append, List.takeWhile_cons_of_pos (by simpa using hc), List.dropWhile_cons_of_pos (by simpa using hc), List.takeWhile_cons_of_pos (by simpa using hc), List.dropWhile_cons_of_pos (by simpa using hc), List.cons_append, ih h']
      rfl
    · rw [List.cons_append, List.takeWhile_cons_of_neg (by simpa using hc), List.dropWhile_cons_of_neg (by simpa using hc), List.takeWhile_cons_of_neg (by simpa using hc), List.dropWhile_cons_of_neg (by simpa using hc)]
      rfl

theorem inR_here {l : List Ro} {r x : Ro} (h : ∀ y ∈ l, cpP y.p r.p ≤ 0) (hx : cpP x.p r.p > 0) : inR' (l ++ [x]) r = l ++ [r] ++ [x] := by
  unfold inR'
  induction l with
  | nil =>
    rw [List.nil_append, List.takeWhile_cons_of_neg (by simp; omega), List.dropWhile_cons_of_neg (by simp; omega)]
    rfl
  | cons y l ih =>
    rw [List.cons_append, List.takeWhile_cons_of_pos (by simpa using h y (by simp)), List.dropWhile_cons_of_pos (by simpa using h y (by simp)), List.cons_append, ih fun z hz => h z (by simp [hz])]
    rfl

theorem abv_iff {l : List Ro} {q : Pf} {n : Nat} : abv l q n = true ↔ ∃ i, i < n ∧ cpP (at' l i).p q > 0 := by unfold abv; rw [decide_eq_true_eq]

theorem abv_false {l : List Ro} {q : Pf} {n : Nat} : abv l q n = false ↔ ∀ i, i < n → cpP (at' l i).p q ≤ 0 := by
  unfold abv
  rw [decide_eq_false_iff_not]
  exact ⟨fun h i hi => by
    rcases Int.lt_or_le 0 (cpP (at' l i).p q) with h' | h'
    · exact absurd ⟨i, hi, h'⟩ h
    · exact h', fun h ⟨i, hi, h'⟩ => by have := h i hi; omega⟩

theorem mem_take {l : List Ro} {n : Nat} {x : Ro} (hx : x ∈ l.take n) : ∃ i, i < n ∧ i < l.length ∧ at' l i = x := by
  obtain ⟨i, hi, rfl⟩ := mem_at hx
  rw [List.length_take] at hi
  refine ⟨i, by omega, by omega, ?_⟩
  unfold at'
  rw [List.getD_eq_getElem?_getD, List.getD_eq_getElem?_getD, List.getElem?_take, if_pos (by omega)]

theorem ptG_none {l : List Ro} {r : Ro} {n : Nat} (h : abv l r.p n = false) : ptG l r n = l.take n := by unfold ptG; rw [h]; rfl

theorem ptG_there {l : List Ro} {r : Ro} {n : Nat} (hn : n < l.length) (h : abv l r.p n = true) : ptG l r (n + 1) = ptG l r n ++ [at' l n] := by
  have h1 : abv l r.p (n + 1) = true := by
    obtain ⟨i, hi, hc⟩ := abv_iff.1 h
    exact abv_iff.2 ⟨i, by omega, hc⟩
  unfold ptG
  rw [h, h1, if_pos rfl, if_pos rfl, take_one hn, inR_app]
  obtain ⟨i, hi, hc⟩ := abv_iff.1 h
  refine ⟨at' l i, ?_, hc⟩
  have : (l.take n)[i]? = some (at' l i) := by rw [List.getElem?_take, if_pos hi, at_get (by omega)]
  exact List.mem_of_getElem? this

theorem ptG_here {l : List Ro} {r : Ro} {n : Nat} (hn : n < l.length) (h : abv l r.p n = false) (hc : cpP (at' l n).p r.p > 0) : ptG l r (n + 1) = ptG l r n ++ [r] ++ [at' l n] ∧ abv l r.p (n + 1) = true := by
  have h1 : abv l r.p (n + 1) = true := abv_iff.2 ⟨n, by omega, hc⟩
  refine ⟨?_, h1⟩
  rw [ptG_none h]
  unfold ptG
  rw [h1, if_pos rfl, take_one hn, inR_here (fun y hy => ?_) hc]
  obtain ⟨i, hi, _, rfl⟩ := mem_take hy
  exact abv_false.1 h i hi

theorem ptG_next {l : List Ro} {r : Ro} {n : Nat} (hn : n < l.length) (h : abv l r.p n = false) (hc : ¬ cpP (at' l n).p r.p > 0) : ptG l r (n + 1) = ptG l r n ++ [at' l n] ∧ abv l r.p (n + 1) = false := by
  have h1 : abv l r.p (n + 1) = false := abv_false.2 (up (abv_false.1 h) (by omega))
  exact ⟨by rw [ptG_none h, ptG_none h1, take_one hn], h1⟩

theorem ptG_end {l : List Ro} {r : Ro} : inR' l r = if abv l r.p l.length then ptG l r l.length else ptG l r l.length ++ [r] := by
  cases h : abv l r.p l.length with
  | true => unfold ptG; rw [h, if_pos rfl, if_pos rfl, List.take_length]
  | false =>
    rw [if_neg (by simp), ptG_none h, List.take_length, inR_all]
    intro y hy
    obtain ⟨i, hi, rfl⟩ := mem_at hy
    exact abv_false.1 h i hi

theorem ptG_length {l : List Ro} {r : Ro} {n : Nat} : (ptG l r n).length ≤ l.length + 1 := by
  unfold ptG
  split
  · rw [inR_length, List.length_take]; omega
  · rw [List.length_take]; omega

def ptSt (F : List Ro → List AV) (l m : List Ro) (r : Ro) (p : Nat) : St :=
  ⟨[.any, .any, .any, .ptr 1 0 0 true, .any, .vsl 3 0 (ptG m r p).length, .bool (abv m r.p p), .vsl 2 0 (m.map roE).length, .int .i64 p, .any, .any, .any, .any, .any, .any, .any, .any, .any, .any, .any, .any, .any, .any, .any, .any, .any, .any, .any, .any, .any, .any, .any, .any, .any, .any, .any, .any, .any, .any, .any, .any, .any, .any, .any, .any, .any, .any, .any, .any, .any], [some ⟨false, 36, 4, true, l.map roE⟩, some ⟨true, 36, 4, true, [roE r]⟩, some ⟨true, 36, 4, true, m.map roE⟩, some ⟨true, 36, 4, true, F (ptG m r p)⟩]⟩

/-- Those of the first rows that are best, of the lengths from n on. -/
def rbSt6 (l : List Ro) (c d : BitVec 64) (n : Int) : St :=
  ⟨[.vsl 0 0 (l.map roE).length, .any, .any, .ptr 1 0 0 true, .ptr 2 0 0 true, .any, .int .i64 n, .any, .any, .any, .any, .any, .any, .any, .any, .any, .any, .any, .any, .any, .any, .any, .any, .any, .any, .any, .any, .any, .any, .any, .any, .any, .any, .any, .any, .any, .any, .any, .any, .any], [some ⟨false, 36, 4, true, l.map roE⟩, some ⟨true, 24, 2, true, [.agg [.w64 c, .w64 d]]⟩, some ⟨true, 36, 4, true, [roZ]⟩]⟩
def rbSt7 (l : List Ro) (c d : BitVec 64) (n : Int) (i : Nat) : St :=
  ⟨[.vsl 0 0 (l.map roE).length, .any, .any, .ptr 1 0 0 true, .ptr 2 0 0 true, .any, .int .i64 n, .int .i64 i, .any, .any, .any, .any, .any, .any, .any, .any, .any, .any, .any, .any, .any, .any, .any, .any, .any, .any, .any, .any, .any, .any, .any, .any, .any, .any, .any, .any, .any, .any, .any, .any], [some ⟨false, 36, 4, true, l.map roE⟩, some ⟨true, 24, 2, true, [.agg [.w64 c, .w64 d]]⟩, some ⟨true, 36, 4, true, [roZ]⟩]⟩
def rbM60 : Modes := ⟨[1, 0, 0, 1, 1, 0, 2, 0, 0, 0, 0, 0, 0, 0, 0, 0, 0, 0, 0, 0, 0, 0, 0, 0, 0, 0, 0, 0, 0, 0, 0, 0, 0, 0, 0, 0, 0, 0, 0, 0], [], [], [], []⟩
def rbM6 : Modes := ⟨[1, 0, 0, 1, 1, 0, 1, 0, 0, 0, 0, 0, 0, 0, 0, 0, 0, 0, 0, 0, 0, 0, 0, 0, 0, 0, 0, 0, 0, 0, 0, 0, 0, 0, 0, 0, 0, 0, 0, 0], [], [], [], []⟩
def rbM6' : Modes := ⟨[0, 0, 0, 0, 1, 2, 0, 0, 0, 0, 0, 0, 0, 0, 0, 0, 0, 0, 0, 0, 0, 0, 0, 0, 0, 0, 0, 0, 0, 0, 0, 0, 0, 0, 0, 0, 0, 0, 0, 0], [], [], [], []⟩
def rbM70 : Modes := ⟨[1, 0, 0, 1, 1, 0, 1, 2, 0, 0, 0, 0, 0, 0, 0, 0, 0, 0, 0, 0, 0, 0, 0, 0, 0, 0, 0, 0, 0, 0, 0, 0, 0, 0, 0, 0, 0, 0, 0, 0], [], [], [], []⟩
def rbM7 : Modes := ⟨[1, 0, 0, 1, 1, 0, 1, 1, 0, 0, 0, 0, 0, 0, 0, 0, 0, 0, 0, 0, 0, 0, 0, 0, 0, 0, 0, 0, 0, 0, 0, 0, 0, 0, 0, 0, 0, 0, 0, 0], [], [], [], []⟩
def rbM7' : Modes := ⟨[1, 0, 0, 1, 1, 2, 1, 0, 0, 0, 0, 0, 0, 0, 0, 0, 0, 0, 0, 0, 0, 0, 0, 0, 0, 0, 0, 0, 0, 0, 0, 0, 0, 0, 0, 0, 0, 0, 0, 0], [], [], [], []⟩
def rbI6 (l : List Ro) (c d : BitVec 64) (n : Int) : Prop := -1 ≤ n ∧ n ≤ 128 ∧ ∀ x ∈ l, okR c d x = true → x.p.len ≤ n
def rbI7 (l : List Ro) (c d : BitVec 64) (n : Int) (i : Nat) : Prop := i ≤ l.length ∧ ∀ j, j < i → okR c d (at' l j) = true → (at' l j).p.len < n
def rbH6 (l : List Ro) (c d : BitVec 64) : List Hint := [.linv _ (128 : Int) (rbSt6 l c d) (rbI6 l c d) (fun n => (n + 1).toNat) rbM60 rbM6 rbM6' (fun _ => []) fun n =>
  [.fork [.linv _ 0 (rbSt7 l c d n) (rbI7 l c d n) (fun i => l.length + 1 - i) rbM70 rbM7 rbM7' (fun _ => [.nw]) fun i =>
    [.fork [.dy, .cell (.int .i64 (at' l i).p.len), .fork [.dy, .cell (pfE (at' l i).p), .fork [.dy, .cell (roE (at' l i))] [.nw]] [.nw]] []]] []]]

def ptM0 : Modes := ⟨[0, 0, 0, 1, 0, 1, 2, 1, 2, 0, 0, 0, 0, 0, 0, 0, 0, 0, 0, 0, 0, 0, 0, 0, 0, 0, 0, 0, 0, 0, 0, 0, 0, 0, 0, 0, 0, 0, 0, 0, 0, 0, 0, 0, 0, 0, 0, 0, 0, 0], [], [], [], [(5, 36, 4)]⟩
def ptM : Modes := ⟨[0, 0, 0, 1, 0, 1, 2, 1, 1, 0, 0, 0, 0, 0, 0, 0, 0, 0, 0, 0, 0, 0, 0, 0, 0, 0, 0, 0, 0, 0, 0, 0, 0, 0, 0, 0, 0, 0, 0, 0, 0, 0, 0, 0, 0, 0, 0, 0, 0, 0], [], [1, 3, 7, 5], [], []⟩
def ptM' : Modes := ⟨[0, 0, 0, 1, 0, 1, 2, 0, 0, 0, 0, 0, 0, 0, 0, 0, 0, 0, 0, 0, 0, 0, 0, 0, 0, 0, 0, 0, 0, 0, 0, 0, 0, 0, 0, 0, 0, 0, 0, 0, 0, 0, 0, 0, 0, 0, 0, 0, 0, 0], [], [], [], []⟩
def ptH (F : List Ro → List AV) (l : List Ro) (r : Ro) : List Hint := [.linv _ 0 (ptSt F l (drR l r.p) r) (fun p => p ≤ (drR l r.p).length) (fun p => (drR l r.p).length + 1 - p) ptM0 ptM ptM' (fun _ => [.fork [.rows (F (ptR l r))] []]) fun p =>
  [.fork [.fork [.dy, .cell (pfE (at' (drR l r.p) p).p), .fork [.rows (F (ptG (drR l r.p) r p ++ [r])), .dy, .cell (roE (at' (drR l r.p) p)), .rows (F (ptG (drR l r.p) r (p + 1))), .nw] [.dy, .cell (roE (at' (drR l r.p) p)), .rows (F (ptG (drR l r.p) r (p + 1))), .nw]] [.dy, .cell (roE (at' (drR l r.p) p)), .rows (F (ptG (drR l r.p) r (p + 1))), .nw]] []]]

def rrbestF : List Arg → (Res → Prop) → Prop
  | [.row r_l, .v (.agg [.w64 c, .w64 d])], R => r_l = (deR r_l).map roE ∧ (deR r_l).length ≤ 9223372036854775807 ∧ R (.v (.tuple [.agg [.w64 (roO (bsR (deR r_l) c d)).p.a, .w64 (roO (bsR (deR r_l) c d)).p.b, .int .i64 (roO (bsR (deR r_l) c d)).p.len, .int .i64 (roO (bsR (deR r_l) c d)).act], .bool (bsR (deR r_l) c d).isSome]))
  | _, _ => False

noncomputable def rrbestCs : List (FuncId × Sx.Spec) := [(49, genSpec [none, none] matchF)]

theorem rrbest_run (l : List Ro) (c d : BitVec 64) (r : AV) : run rrbestCs Try.prog 28 [.vsl 0 0 (l.map roE).length, .agg [.w64 c, .w64 d]] [some ⟨false, (pRefR.getD (0, 0)).1, (pRefR.getD (0, 0)).2, true, (l.map roE)⟩] (rbH6 l c d) (yields (.v r)) =
    ((Go.Sx.St.mk [Go.Sx.AV.vsl (0 : Nat) (0 : Nat) (List.length (List.map Go.Proofs.Ytffcpblbdfjagaa.L1.roE l)), Go.Sx.AV.any, Go.Sx.AV.any, Go.Sx.AV.ptr ((0 : Nat) + (1 : Nat)) (0 : Nat) (0 : Nat) Bool.true, Go.Sx.AV.ptr ((0 : Nat) + (1 : Nat) + (1 : Nat)) (0 : Nat) (0 : Nat) Bool.true, Go.Sx.AV.any, Go.Sx.AV.int Go.IntKind.i64 (128 : Int), Go.Sx.AV.any, Go.Sx.AV.any, Go.Sx.AV.any, Go.Sx.AV.any, Go.Sx.AV.any, Go.Sx.AV.any, Go.Sx.AV.any, Go.Sx.AV.any, Go.Sx.AV.any, Go.Sx.AV.any, Go.Sx.AV.any, Go.Sx.AV.any, Go.Sx.AV.any, Go.Sx.AV.any, Go.Sx.AV.any, Go.Sx.AV.any, Go.Sx.AV.any, Go.Sx.AV.any, Go.Sx.AV.any, Go.Sx.AV.any, Go.Sx.AV.any, Go.Sx.AV.any, Go.Sx.AV.any, Go.Sx.AV.any, Go.Sx.AV.any, Go.Sx.AV.any, Go.Sx.AV.any, Go.Sx.AV.any, Go.Sx.AV.any, Go.Sx.AV.any, Go.Sx.AV.any, Go.Sx.AV.any, Go.Sx.AV.any] [Option.some (Go.Sx.Blk.mk Bool.false (nat_lit 36) (4 : Nat) Bool.true (List.map Go.Proofs.Ytffcpblbdfjagaa.L1.roE l)), Option.some (Go.Sx.Blk.mk Bool.true (24 : Nat) (2 : Nat) Bool.true [Go.Sx.AV.agg [Go.Sx.AV.w64 c, Go.Sx.AV.w64 d]]), Option.some (Go.Sx.Blk.mk Bool.true (36 : Nat) (4 : Nat) Bool.true [Go.Sx.AV.agg [Go.Sx.AV.lit (Go.Value.int Go.IntKind.u64 (0 : Int)), Go.Sx.AV.lit (Go.Value.int Go.IntKind.u64 (0 : Int)), Go.Sx.AV.lit (Go.Value.int Go.IntKind.i64 (0 : Int)), Go.Sx.AV.lit (Go.Value.int Go.IntKind.i64 (0 : Int))]])] = Go.Proofs.Ytffcpblbdfjagaa.L1.rbSt6 l c d (128 : Int) ∧ Go.Proofs.Ytffcpblbdfjagaa.L1.rbI6 l c d (128 : Int)) ∧ ∀ (p : Int), Go.Proofs.Ytffcpblbdfjagaa.L1.rbI6 l c d p → (Decidable.decide (p ≥ (0 : Int)) = Bool.true → (Go.Sx.St.mk [Go.Sx.AV.vsl (0 : Nat) (0 : Nat) (List.length (List.map Go.Proofs.Ytffcpblbdfjagaa.L1.roE l)), Go.Sx.AV.any, Go.Sx.AV.any, Go.Sx.AV.ptr ((0 : Nat) + (1 : Nat)) (0 : Nat) (0 : Nat) Bool.true, Go.Sx.AV.ptr ((0 : Nat) + (1 : Nat) + (1 : Nat)) (0 : Nat) (0 : Nat) Bool.true, Go.Sx.AV.any, Go.Sx.AV.int Go.IntKind.i64 p, Go.Sx.AV.int Go.IntKind.i64 (0 : Int), Go.Sx.AV.any, Go.Sx.AV.any, Go.Sx.AV.any, Go.Sx.AV.any, Go.Sx.AV.any, Go.Sx.AV.any, Go.Sx.AV.any, Go.Sx.AV.any, Go.Sx.AV.any, Go.Sx.AV.any, Go.Sx.AV.any, Go.Sx.AV.any, Go.Sx.AV.any, Go.Sx.AV.any, Go.Sx.AV.any, Go.Sx.AV.any, Go.Sx.AV.any, Go.Sx.AV.any, Go.Sx.AV.any, Go.Sx.AV.any, Go.Sx.AV.any, Go.Sx.AV.any, Go.Sx.AV.any, Go.Sx.AV.any, Go.Sx.AV.any, Go.Sx.AV.any, Go.Sx.AV.any, Go.Sx.AV.any, Go.Sx.AV.any, Go.Sx.AV.any, Go.Sx.AV.any, Go.Sx.AV.any] [Option.some (Go.Sx.Blk.mk Bool.false (36 : Go.TypeId) (4 : Nat) Bool.true (List.map Go.Proofs.Ytffcpblbdfjagaa.L1.roE l)), Option.some (Go.Sx.Blk.mk Bool.true (24 : Go.TypeId) (2 : Nat) Bool.true [Go.Sx.AV.agg [Go.Sx.AV.w64 c, Go.Sx.AV.w64 d]]), Option.some (Go.Sx.Blk.mk Bool.true (36 : Go.TypeId) (4 : Nat) Bool.true [Go.Sx.AV.agg [Go.Sx.AV.lit (Go.Value.int Go.IntKind.u64 (0 : Int)), Go.Sx.AV.lit (Go.Value.int Go.IntKind.u64 (0 : Int)), Go.Sx.AV.lit (Go.Value.int Go.IntKind.i64 (0 : Int)), Go.Sx.AV.lit (Go.Value.int Go.IntKind.i64 (0 : Int))]])] = Go.Proofs.Ytffcpblbdfjagaa.L1.rbSt7 l c d p (0 : Nat) ∧ Go.Proofs.Ytffcpblbdfjagaa.L1.rbI7 l c d p (0 : Nat)) ∧ ∀ (p_1 : Nat), Go.Proofs.Ytffcpblbdfjagaa.L1.rbI7 l c d p p_1 → (Decidable.decide ((↑p_1 : Int) < (↑(List.length (List.map Go.Proofs.Ytffcpblbdfjagaa.L1.roE l)) : Int)) = Bool.true → ((0 : Int) ≤ (↑p_1 : Int) ∧ (↑p_1 : Int) < (↑(List.length (List.map Go.Proofs.Ytffcpblbdfjagaa.L1.roE l)) : Int)) ∧ Go.Sx.Blk.read Go.Proofs.Try.prog (Go.Sx.Blk.mk Bool.false (36 : Go.TypeId) (4 : Nat) Bool.true (List.map Go.Proofs.Ytffcpblbdfjagaa.L1.roE l)) (3 : Nat) ((0 : Nat) + Int.toNat (↑p_1 : Int)) ((0 : Nat) + (0 : Nat) + (2 : Nat)) = Option.some (Go.Sx.AV.int Go.IntKind.i64 (Go.Sx.M.Ro.p (Go.Sx.M.at' l p_1)).3) ∧ (((Go.Sx.M.Ro.p (Go.Sx.M.at' l p_1)).3 == p) = Bool.true → ((0 : Int) ≤ (↑p_1 : Int) ∧ (↑p_1 : Int) < (↑(List.length (List.map Go.Proofs.Ytffcpblbdfjagaa.L1.roE l)) : Int)) ∧ Go.Sx.Blk.read Go.Proofs.Try.prog (Go.Sx.Blk.mk Bool.false (36 : Go.TypeId) (4 : Nat) Bool.true (List.map Go.Proofs.Ytffcpblbdfjagaa.L1.roE l)) (34 : Nat) ((0 : Nat) + Int.toNat (↑p_1 : Int)) ((0 : Nat) + (0 : Nat)) = Option.some (Go.Sx.AV.agg [Go.Sx.AV.w64 (Go.Sx.M.Ro.p (Go.Sx.M.at' l p_1)).1, Go.Sx.AV.w64 (Go.Sx.M.Ro.p (Go.Sx.M.at' l p_1)).2, Go.Sx.AV.int Go.IntKind.i64 (Go.Sx.M.Ro.p (Go.Sx.M.at' l p_1)).3]) ∧ (Go.Proofs.Ytffcpblbdfjagaa.L1.matchB (Go.Sx.M.Ro.p (Go.Sx.M.at' l p_1)).1 (Go.Sx.M.Ro.p (Go.Sx.M.at' l p_1)).2 (Go.Sx.M.Ro.p (Go.Sx.M.at' l p_1)).3 c d = Bool.true → ((0 : Int) ≤ (↑p_1 : Int) ∧ (↑p_1 : Int) < (↑(List.length (List.map Go.Proofs.Ytffcpblbdfjagaa.L1.roE l)) : Int)) ∧ Go.Sx.Blk.read Go.Proofs.Try.prog (Go.Sx.Blk.mk Bool.false (36 : Go.TypeId) (4 : Nat) Bool.true (List.map Go.Proofs.Ytffcpblbdfjagaa.L1.roE l)) (36 : Nat) ((0 : Nat) + Int.toNat (↑p_1 : Int)) (0 : Nat) = Option.some (Go.Sx.AV.agg [Go.Sx.AV.w64 (Go.Sx.M.Ro.p (Go.Sx.M.at' l p_1)).1, Go.Sx.AV.w64 (Go.Sx.M.Ro.p (Go.Sx.M.at' l p_1)).2, Go.Sx.AV.int Go.IntKind.i64 (Go.Sx.M.Ro.p (Go.Sx.M.at' l p_1)).3, Go.Sx.AV.int Go.IntKind.i64 (Go.Sx.M.at' l p_1).2]) ∧ Go.Sx.AV.tuple [Go.Sx.AV.agg [Go.Sx.AV.w64 (Go.Sx.M.Ro.p (Go.Sx.M.at' l p_1)).1, Go.Sx.AV.w64 (Go.Sx.M.Ro.p (Go.Sx.M.at' l p_1)).2, Go.Sx.AV.int Go.IntKind.i64 (Go.Sx.M.Ro.p (Go.Sx.M.at' l p_1)).3, Go.Sx.AV.int Go.IntKind.i64 (Go.Sx.M.at' l p_1).2], Go.Sx.AV.bool Bool.true] = r) ∧ (Go.Proofs.Ytffcpblbdfjagaa.L1.matchB (Go.Sx.M.Ro.p (Go.Sx.M.at' l p_1)).1 (Go.Sx.M.Ro.p (Go.Sx.M.at' l p_1)).2 (Go.Sx.M.Ro.p (Go.Sx.M.at' l p_1)).3 c d = Bool.false → Go.Sx.inRange Go.IntKind.i64 ((↑p_1 : Int) + (1 : Int)) ∧ ∃ (p' : Nat), Go.Sx.St.mk [Go.Sx.AV.vsl (0 : Nat) (0 : Nat) (List.length (List.map Go.Proofs.Ytffcpblbdfjagaa.L1.roE l)), Go.Sx.AV.any, Go.Sx.AV.any, Go.Sx.AV.ptr ((0 : Nat) + (1 : Nat)) (0 : Nat) (0 : Nat) Bool.true, Go.Sx.AV.ptr ((0 : Nat) + (1 : Nat) + (1 : Nat)) (0 : Nat) (0 : Nat) Bool.true, Go.Sx.AV.any, Go.Sx.AV.int Go.IntKind.i64 p, Go.Sx.AV.int Go.IntKind.i64 ((↑p_1 : Int) + (1 : Int)), Go.Sx.AV.any, Go.Sx.AV.any, Go.Sx.AV.any, Go.Sx.AV.any, Go.Sx.AV.any, Go.Sx.AV.any, Go.Sx.AV.any, Go.Sx.AV.any, Go.Sx.AV.any, Go.Sx.AV.any, Go.Sx.AV.any, Go.Sx.AV.any, Go.Sx.AV.any, Go.Sx.AV.any, Go.Sx.AV.any, Go.Sx.AV.any, Go.Sx.AV.any, Go.Sx.AV.any, Go.Sx.AV.any, Go.Sx.AV.any, Go.Sx.AV.any, Go.Sx.AV.any, Go.Sx.AV.any, Go.Sx.AV.any, Go.Sx.AV.any, Go.Sx.AV.any, Go.Sx.AV.any, Go.Sx.AV.any, Go.Sx.AV.any, Go.Sx.AV.any, Go.Sx.AV.any, Go.Sx.AV.any] [Option.some (Go.Sx.Blk.mk Bool.false (36 : Go.TypeId) (4 : Nat) Bool.true (List.map Go.Proofs.Ytffcpblbdfjagaa.L1.roE l)), Option.some (Go.Sx.Blk.mk Bool.true (24 : Go.TypeId) (2 : Nat) Bool.true [Go.Sx.AV.agg [Go.Sx.AV.w64 c, Go.Sx.AV.w64 d]]), Option.some (Go.Sx.Blk.mk Bool.true (36 : Go.TypeId) (4 : Nat) Bool.true [Go.Sx.AV.agg [Go.Sx.AV.lit (Go.Value.int Go.IntKind.u64 (0 : Int)), Go.Sx.AV.lit (Go.Value.int Go.IntKind.u64 (0 : Int)), Go.Sx.AV.lit (Go.Value.int Go.IntKind.i64 (0 : Int)), Go.Sx.AV.lit (Go.Value.int Go.IntKind.i64 (0 : Int))]])] = Go.Proofs.Ytffcpblbdfjagaa.L1.rbSt7 l c d p p' ∧ Go.Proofs.Ytffcpblbdfjagaa.L1.rbI7 l c d p p' ∧ List.length l + (1 : Nat) - p' < List.length l + (1 : Nat) - p_1)) ∧ (((Go.Sx.M.Ro.p (Go.Sx.M.at' l p_1)).3 == p) = Bool.false → Go.Sx.inRange Go.IntKind.i64 ((↑p_1 : Int) + (1 : Int)) ∧ ∃ (p' : Nat), Go.Sx.St.mk [Go.Sx.AV.vsl (0 : Nat) (0 : Nat) (List.length (List.map Go.Proofs.Ytffcpblbdfjagaa.L1.roE l)), Go.Sx.AV.any, Go.Sx.AV.any, Go.Sx.AV.ptr ((0 : Nat) + (1 : Nat)) (0 : Nat) (0 : Nat) Bool.true, Go.Sx.AV.ptr ((0 : Nat) + (1 : Nat) + (1 : Nat)) (0 : Nat) (0 : Nat) Bool.true, Go.Sx.AV.any, Go.Sx.AV.int Go.IntKind.i64 p, Go.Sx.AV.int Go.IntKind.i64 ((↑p_1 : Int) + (1 : Int)), Go.Sx.AV.any, Go.Sx.AV.any, Go.Sx.AV.any, Go.Sx.AV.any, Go.Sx.AV.any, Go.Sx.AV.any, Go.Sx.AV.any, Go.Sx.AV.any, Go.Sx.AV.any, Go.Sx.AV.any, Go.Sx.AV.any, Go.Sx.AV.any, Go.Sx.AV.any, Go.Sx.AV.any, Go.Sx.AV.any, Go.Sx.AV.any, Go.Sx.AV.any, Go.Sx.AV.any, Go.Sx.AV.any, Go.Sx.AV.any, Go.Sx.AV.any, Go.Sx.AV.any, Go.Sx.AV.any, Go.Sx.AV.any, Go.Sx.AV.any, Go.Sx.AV.any, Go.Sx.AV.any, Go.Sx.AV.any, Go.Sx.AV.any, Go.Sx.AV.any, Go.Sx.AV.any, Go.Sx.AV.any] [Option.some (Go.Sx.Blk.mk Bool.false (36 : Go.TypeId) (4 : Nat) Bool.true (List.map Go.Proofs.Ytffcpblbdfjagaa.L1.roE l)), Option.some (Go.Sx.Blk.mk Bool.true (24 : Go.TypeId) (2 : Nat) Bool.true [Go.Sx.AV.agg [Go.Sx.AV.w64 c, Go.Sx.AV.w64 d]]), Option.some (Go.Sx.Blk.mk Bool.true (36 : Go.TypeId) (4 : Nat) Bool.true [Go.Sx.AV.agg [Go.Sx.AV.lit (Go.Value.int Go.IntKind.u64 (0 : Int)), Go.Sx.AV.lit (Go.Value.int Go.IntKind.u64 (0 : Int)), Go.Sx.AV.lit (Go.Value.int Go.IntKind.i64 (0 : Int)), Go.Sx.AV.lit (Go.Value.int Go.IntKind.i64 (0 : Int))]])] = Go.Proofs.Ytffcpblbdfjagaa.L1.rbSt7 l c d p p' ∧ Go.Proofs.Ytffcpblbdfjagaa.L1.rbI7 l c d p p' ∧ List.length l + (1 : Nat) - p' < List.length l + (1 : Nat) - p_1)) ∧ (Decidable.decide ((↑p_1 : Int) < (↑(List.length (List.map Go.Proofs.Ytffcpblbdfjagaa.L1.roE l)) : Int)) = Bool.false → Go.Sx.inRange Go.IntKind.i64 (p - (1 : Int)) ∧ ∃ (p' : Int), Go.Sx.St.mk [Go.Sx.AV.vsl (0 : Nat) (0 : Nat) (List.length (List.map Go.Proofs.Ytffcpblbdfjagaa.L1.roE l)), Go.Sx.AV.any, Go.Sx.AV.any, Go.Sx.AV.ptr ((0 : Nat) + (1 : Nat)) (0 : Nat) (0 : Nat) Bool.true, Go.Sx.AV.ptr ((0 : Nat) + (1 : Nat) + (1 : Nat)) (0 : Nat) (0 : Nat) Bool.true, Go.Sx.AV.any, Go.Sx.AV.int Go.IntKind.i64 (p - (1 : Int)), Go.Sx.AV.any, Go.Sx.AV.any, Go.Sx.AV.any, Go.Sx.AV.any, Go.Sx.AV.any, Go.Sx.AV.any, Go.Sx.AV.any, Go.Sx.AV.any, Go.Sx.AV.any, Go.Sx.AV.any, Go.Sx.AV.any, Go.Sx.AV.any, Go.Sx.AV.any, Go.Sx.AV.any, Go.Sx.AV.any, Go.Sx.AV.any, Go.Sx.AV.any, Go.Sx.AV.any, Go.Sx.AV.any, Go.Sx.AV.any, Go.Sx.AV.any, Go.Sx.AV.any, Go.Sx.AV.any, Go.Sx.AV.any, Go.Sx.AV.any, Go.Sx.AV.any, Go.Sx.AV.any, Go.Sx.AV.any, Go.Sx.AV.any, Go.Sx.AV.any, Go.Sx.AV.any, Go.Sx.AV.any, Go.Sx.AV.any] [Option.some (Go.Sx.Blk.mk Bool.false (36 : Go.TypeId) (4 : Nat) Bool.true (List.map Go.Proofs.Ytffcpblbdfjagaa.L1.roE l)), Option.some (Go.Sx.Blk.mk Bool.true (24 : Go.TypeId) (2 : Nat) Bool.true [Go.Sx.AV.agg [Go.Sx.AV.w64 c, Go.Sx.AV.w64 d]]), Option.some (Go.Sx.Blk.mk Bool.true (36 : Go.TypeId) (4 : Nat) Bool.true [Go.Sx.AV.agg [Go.Sx.AV.lit (Go.Value.int Go.IntKind.u64 (0 : Int)), Go.Sx.AV.lit (Go.Value.int Go.IntKind.u64 (0 : Int)), Go.Sx.AV.lit (Go.Value.int Go.IntKind.i64 (0 : Int)), Go.Sx.AV.lit (Go.Value.int Go.IntKind.i64 (0 : Int))]])] = Go.Proofs.Ytffcpblbdfjagaa.L1.rbSt6 l c d p' ∧ Go.Proofs.Ytffcpblbdfjagaa.L1.rbI6 l c d p' ∧ Int.toNat (p' + (1 : Int)) < Int.toNat (p + (1 : Int)))) ∧ (Decidable.decide (p ≥ (0 : Int)) = Bool.false → Go.Sx.AV.tuple [Go.Sx.AV.agg [Go.Sx.AV.w64 (BitVec.ofInt (64 : Nat) (0 : Int)), Go.Sx.AV.w64 (BitVec.ofInt (64 : Nat) (0 : Int)), Go.Sx.AV.int Go.IntKind.i64 (0 : Int), Go.Sx.AV.int Go.IntKind.i64 (0 : Int)], Go.Sx.AV.bool Bool.false] = r)) := by kernel_rfl

theorem rrbestCs_ok : ∀ e ∈ rrbestCs, SpecOK Try.prog e.1 e.2 := by
  intro e he
  simp only [rrbestCs, List.mem_cons, List.not_mem_nil, or_false] at he
  rcases he with rfl
  · exact rmatch_ok

theorem rrbest_ok : SpecOK Try.prog 28 (genSpec [pRefR, none] rrbestF) := by
  refine genSpec_ok (run_ok (l := rrbestCs) rrbestCs_ok mixed noNG) fun l R hF => ?_
  unfold rrbestF at hF
  split at hF
  · rename_i r_l c d
    obtain ⟨hr_l, hl, hF⟩ := hF
    generalize deR r_l = l at hr_l hl hF
    subst hr_l
    refine ⟨_, hF, rfl, (rbH6 l c d), ?_⟩
    show run rrbestCs Try.prog _ [.vsl 0 0 (l.map roE).length, .agg [.w64 c, .w64 d]] [some ⟨false, (pRefR.getD (0, 0)).1, (pRefR.getD (0, 0)).2, true, (l.map roE)⟩] _ _
    rw [rrbest_run]
    have ok : ∀ x : Ro, okR c d x = true ↔ mtP x.p c d = true ∧ 0 ≤ x.p.len ∧ x.p.len ≤ 128 := fun x => by unfold okR; simp
    refine ⟨⟨rfl, by omega, by omega, fun x _ h => ((ok x).1 h).2.2⟩, ?_⟩
    rintro n ⟨h1, h2, h3⟩
    refine ⟨fun hge => ⟨⟨rfl, Nat.zero_le _, fun j hj => by omega⟩, ?_⟩, fun hlt => ?_⟩
    · have hn : n ≥ 0 := of_decide_eq_true hge
      rintro i ⟨g1, g2⟩
      refine ⟨fun hlt => ?_, fun hge2 => ?_⟩
      · have hi : i < l.length := by simp only [decide_eq_true_eq, List.length_map] at hlt; omega
        have B : 0 ≤ (i : Int) ∧ (i : Int) < ((l.map roE).length : Int) := by rw [List.length_map]; omega
        have nx : (okR c d (at' l i) = true → (at' l i).p.len < n) → inRange .i64 ((i : Int) + 1) ∧ ∃ p', rbSt7 l c d n (i + 1) = rbSt7 l c d n p' ∧ rbI7 l c d n p' ∧ l.length + 1 - p' < l.length + 1 - i := fun h => ⟨inR (by omega) (by omega), i + 1, rfl, ⟨by omega, up g2 h⟩, by omega⟩
        refine ⟨B, read_rows B.1 B.2 (ro_len _), fun he => ⟨B, read_rows B.1 B.2 (rr_p _), fun hm => ⟨B, read_rows B.1 B.2 (rr_whole _), ?_⟩, fun hm => nx fun h => ?_⟩, fun he => nx fun h => ?_⟩
        · have he : (at' l i).p.len = n := by simpa using he
          have hb : bsR l c d = some (at' l i) := bsR_of hi ((ok _).2 ⟨hm, by omega, by omega⟩) fun j hj hj2 => ⟨by have := h3 _ (at_mem hj) hj2; unfold lnR; omega, fun hji => by have := g2 j hji hj2; unfold lnR; omega⟩
          rw [hb]; rfl
        · have := ((ok _).1 h).1
          rw [show mtP (at' l i).p c d = false from hm] at this; cases this
        · have a := h3 _ (at_mem hi) h
          have b : (at' l i).p.len ≠ n := by simpa using he
          omega
      · have hi : i = l.length := by simp only [decide_eq_false_iff_not, List.length_map] at hge2; omega
        subst hi
        refine ⟨inR (by omega) (by omega), n - 1, rfl, ⟨by omega, by omega, fun x hx hok => ?_⟩, by omega⟩
        obtain ⟨j, hj, rfl⟩ := mem_at hx
        have := g2 j hj hok
        omega
    · have hn : ¬ n ≥ 0 := of_decide_eq_false hlt
      rw [bsR_none fun j hj => ?_]
      · rfl
      · cases h : okR c d (at' l j) with
        | false => rfl
        | true =>
          have a := h3 _ (at_mem hj) h
          have b := ((ok _).1 h).2.1
          omega
  · exact hF.elim


def rrtellF : List Arg → (Res → Prop) → Prop
  | [.row r_l, .v (.agg [.w64 c, .w64 d])], R => r_l = (deR r_l).map roE ∧ (deR r_l).length ≤ 9223372036854775807 ∧ R (.v (.int .i64 (tlR (deR r_l) c d)))
  | _, _ => False

noncomputable def rrtellCs : List (FuncId × Sx.Spec) := [(28, genSpec [pRefR, none] rrbestF)]

theorem rrtell_run (l : List Ro) (c d : BitVec 64) (r : AV) : run rrtellCs Try.prog 30 [.vsl 0 0 (l.map roE).length, .agg [.w64 c, .w64 d]] [some ⟨false, (pRefR.getD (0, 0)).1, (pRefR.getD (0, 0)).2, true, (l.map roE)⟩] [.fork [] []] (yields (.v r)) =
    ((0 : Nat) + List.length (List.map Go.Proofs.Ytffcpblbdfjagaa.L1.roE l) ≤ List.length (List.map Go.Proofs.Ytffcpblbdfjagaa.L1.roE l) ∧ List.take (List.length (List.map Go.Proofs.Ytffcpblbdfjagaa.L1.roE l)) (List.drop (0 : Nat) (List.map Go.Proofs.Ytffcpblbdfjagaa.L1.roE l)) = List.map Go.Proofs.Ytffcpblbdfjagaa.L1.roE (Go.Proofs.Ytffcpblbdfjagaa.L1.deR (List.take (List.length (List.map Go.Proofs.Ytffcpblbdfjagaa.L1.roE l)) (List.drop (0 : Nat) (List.map Go.Proofs.Ytffcpblbdfjagaa.L1.roE l)))) ∧ List.length (Go.Proofs.Ytffcpblbdfjagaa.L1.deR (List.take (List.length (List.map Go.Proofs.Ytffcpblbdfjagaa.L1.roE l)) (List.drop (0 : Nat) (List.map Go.Proofs.Ytffcpblbdfjagaa.L1.roE l)))) ≤ (9223372036854775807 : Nat) ∧ ((!Option.isSome (Go.Sx.M.bsR (Go.Proofs.Ytffcpblbdfjagaa.L1.deR (List.take (List.length (List.map Go.Proofs.Ytffcpblbdfjagaa.L1.roE l)) (List.drop (0 : Nat) (List.map Go.Proofs.Ytffcpblbdfjagaa.L1.roE l)))) c d)) = Bool.true → Go.Sx.AV.int Go.IntKind.i64 (0 : Int) = r) ∧ ((!Option.isSome (Go.Sx.M.bsR (Go.Proofs.Ytffcpblbdfjagaa.L1.deR (List.take (List.length (List.map Go.Proofs.Ytffcpblbdfjagaa.L1.roE l)) (List.drop (0 : Nat) (List.map Go.Proofs.Ytffcpblbdfjagaa.L1.roE l)))) c d)) = Bool.false → Go.Sx.AV.int Go.IntKind.i64 (Go.Proofs.Ytffcpblbdfjagaa.L1.roO (Go.Sx.M.bsR (Go.Proofs.Ytffcpblbdfjagaa.L1.deR (List.take (List.length (List.map Go.Proofs.Ytffcpblbdfjagaa.L1.roE l)) (List.drop (0 : Nat) (Go.Sx.Blk.elems (Go.Sx.Blk.mk Bool.false (Prod.fst (Option.getD Go.Proofs.Ytffcpblbdfjagaa.L1.pRefR ((0 : Go.TypeId), (0 : Nat)))) (Prod.snd (Option.getD Go.Proofs.Ytffcpblbdfjagaa.L1.pRefR ((0 : Go.TypeId), (0 : Nat)))) Bool.true (List.map Go.Proofs.Ytffcpblbdfjagaa.L1.roE l)))))) c d)).2 = r)) := by kernel_rfl

theorem rrtellCs_ok : ∀ e ∈ rrtellCs, SpecOK Try.prog e.1 e.2 := by
  intro e he
  simp only [rrtellCs, List.mem_cons, List.not_mem_nil, or_false] at he
  rcases he with rfl
  · exact rrbest_ok

theorem rrtell_ok : SpecOK Try.prog 30 (genSpec [pRefR, none] rrtellF) := by
  refine genSpec_ok (run_ok (l := rrtellCs) rrtellCs_ok mixed noNG) fun l R hF => ?_
  unfold rrtellF at hF
  split at hF
  · rename_i r_l c d
    obtain ⟨hr_l, hl, hF⟩ := hF
    generalize deR r_l = l at hr_l hl hF
    subst hr_l
    refine ⟨_, hF, rfl, [.fork [] []], ?_⟩
    show run rrtellCs Try.prog _ [.vsl 0 0 (l.map roE).length, .agg [.w64 c, .w64 d]] [some ⟨false, (pRefR.getD (0, 0)).1, (pRefR.getD (0, 0)).2, true, (l.map roE)⟩] _ _
    rw [rrtell_run]
    simp only [whole_row, deR_map]
    refine ⟨by omega, by trivial, hl, fun h => ?_, fun h => ?_⟩
    · unfold tlR
      cases hb : bsR l c d with
      | none => rfl
      | some x => rw [hb] at h; cases h
    · unfold tlR
      cases hb : bsR l c d with
      | none => rw [hb] at h; cases h
      | some x => rfl
  · exact hF.elim


def rrputF : List Arg → (Res → Prop) → Prop
  | [.row r_l, .v (.agg [.w64 a, .w64 b, .int .i64 k, .int .i64 j])], R => r_l = (deR r_l).map roE ∧ (deR r_l).length ≤ 1000000 ∧ R (.vrow 36 4 ((ptR (deR r_l) ⟨⟨a, b, k⟩, j⟩).map roE))
  | _, _ => False

noncomputable def rrputCs : List (FuncId × Sx.Spec) := [(23, genSpec [pRefR, none] rrdropF),
  (43, genSpec [none, none] cmppF)]

theorem rrput_run (l : List Ro) (a b : BitVec 64) (k j : Int) (F : List Ro → List AV) (es : List AV) : run rrputCs Try.prog 22 [.vsl 0 0 (l.map roE).length, .agg [.w64 a, .w64 b, .int .i64 k, .int .i64 j]] [some ⟨false, (pRefR.getD (0, 0)).1, (pRefR.getD (0, 0)).2, true, (l.map roE)⟩] (ptH F l ⟨⟨a, b, k⟩, j⟩) (yields (.vrow 36 4 es)) =
    ((0 : Nat) + List.length (List.map Go.Proofs.Ytffcpblbdfjagaa.L1.roE l) ≤ List.length (List.map Go.Proofs.Ytffcpblbdfjagaa.L1.roE l) ∧ List.take (List.length (List.map Go.Proofs.Ytffcpblbdfjagaa.L1.roE l)) (List.drop (0 : Nat) (List.map Go.Proofs.Ytffcpblbdfjagaa.L1.roE l)) = List.map Go.Proofs.Ytffcpblbdfjagaa.L1.roE (Go.Proofs.Ytffcpblbdfjagaa.L1.deR (List.take (List.length (List.map Go.Proofs.Ytffcpblbdfjagaa.L1.roE l)) (List.drop (0 : Nat) (List.map Go.Proofs.Ytffcpblbdfjagaa.L1.roE l)))) ∧ List.length (Go.Proofs.Ytffcpblbdfjagaa.L1.deR (List.take (List.length (List.map Go.Proofs.Ytffcpblbdfjagaa.L1.roE l)) (List.drop (0 : Nat) (List.map Go.Proofs.Ytffcpblbdfjagaa.L1.roE l)))) ≤ (1000000 : Nat) ∧ (Go.Sx.St.mk [Go.Sx.AV.any, Go.Sx.AV.any, Go.Sx.AV.any, Go.Sx.AV.ptr ((0 : Nat) + (1 : Nat)) (0 : Nat) (0 : Nat) Bool.true, Go.Sx.AV.any, Go.Sx.AV.vsl (List.length [Option.some (Go.Sx.Blk.mk Bool.false (nat_lit 36) (4 : Nat) Bool.true (List.map Go.Proofs.Ytffcpblbdfjagaa.L1.roE l)), Option.some (Go.Sx.Blk.mk Bool.true (36 : Nat) (4 : Nat) Bool.true [Go.Sx.AV.agg [Go.Sx.AV.w64 a, Go.Sx.AV.w64 b, Go.Sx.AV.int Go.IntKind.i64 k, Go.Sx.AV.int Go.IntKind.i64 j]]), Option.some (Go.Sx.Blk.mk Bool.true (36 : Go.TypeId) (4 : Nat) Bool.true (List.map Go.Proofs.Ytffcpblbdfjagaa.L1.roE (Go.Sx.M.drR (Go.Proofs.Ytffcpblbdfjagaa.L1.deR (List.take (List.length (List.map Go.Proofs.Ytffcpblbdfjagaa.L1.roE l)) (List.drop (0 : Nat) (List.map Go.Proofs.Ytffcpblbdfjagaa.L1.roE l)))) (Go.Sx.M.Pf.mk a b k))))]) (0 : Nat) (0 : Nat), Go.Sx.AV.bool Bool.false, Go.Sx.AV.vsl ((0 : Nat) + (1 : Nat) + (1 : Nat)) (0 : Nat) (List.length (List.map Go.Proofs.Ytffcpblbdfjagaa.L1.roE (Go.Sx.M.drR (Go.Proofs.Ytffcpblbdfjagaa.L1.deR (List.take (List.length (List.map Go.Proofs.Ytffcpblbdfjagaa.L1.roE l)) (List.drop (0 : Nat) (List.map Go.Proofs.Ytffcpblbdfjagaa.L1.roE l)))) (Go.Sx.M.Pf.mk a b k)))), Go.Sx.AV.int Go.IntKind.i64 (0 : Int), Go.Sx.AV.any, Go.Sx.AV.any, Go.Sx.AV.any, Go.Sx.AV.any, Go.Sx.AV.any, Go.Sx.AV.any, Go.Sx.AV.any, Go.Sx.AV.any, Go.Sx.AV.any, Go.Sx.AV.any, Go.Sx.AV.any, Go.Sx.AV.any, Go.Sx.AV.any, Go.Sx.AV.any, Go.Sx.AV.any, Go.Sx.AV.any, Go.Sx.AV.any, Go.Sx.AV.any, Go.Sx.AV.any, Go.Sx.AV.any, Go.Sx.AV.any, Go.Sx.AV.any, Go.Sx.AV.any, Go.Sx.AV.any, Go.Sx.AV.any, Go.Sx.AV.any, Go.Sx.AV.any, Go.Sx.AV.any, Go.Sx.AV.any, Go.Sx.AV.any, Go.Sx.AV.any, Go.Sx.AV.any, Go.Sx.AV.any, Go.Sx.AV.any, Go.Sx.AV.any, Go.Sx.AV.any, Go.Sx.AV.any, Go.Sx.AV.any, Go.Sx.AV.any, Go.Sx.AV.any, Go.Sx.AV.any] ([Option.some (Go.Sx.Blk.mk Bool.false (nat_lit 36) (4 : Nat) Bool.true (List.map Go.Proofs.Ytffcpblbdfjagaa.L1.roE l)), Option.some (Go.Sx.Blk.mk Bool.true (36 : Nat) (4 : Nat) Bool.true [Go.Sx.AV.agg [Go.Sx.AV.w64 a, Go.Sx.AV.w64 b, Go.Sx.AV.int Go.IntKind.i64 k, Go.Sx.AV.int Go.IntKind.i64 j]]), Option.some (Go.Sx.Blk.mk Bool.true (36 : Go.TypeId) (4 : Nat) Bool.true (List.map Go.Proofs.Ytffcpblbdfjagaa.L1.roE (Go.Sx.M.drR (Go.Proofs.Ytffcpblbdfjagaa.L1.deR (List.take (List.length (List.map Go.Proofs.Ytffcpblbdfjagaa.L1.roE l)) (List.drop (0 : Nat) (List.map Go.Proofs.Ytffcpblbdfjagaa.L1.roE l)))) (Go.Sx.M.Pf.mk a b k))))] ++ [Option.some (Go.Sx.Blk.mk Bool.true (36 : Go.TypeId) (4 : Nat) Bool.true [])]) = Go.Proofs.Ytffcpblbdfjagaa.L1.ptSt F l (Go.Sx.M.drR l (Go.Sx.M.Pf.mk a b k)) (Go.Sx.M.Ro.mk (Go.Sx.M.Pf.mk a b k) j) (0 : Nat) ∧ Nat.le (0 : Nat) (List.length (Go.Sx.M.drR l (Go.Sx.M.Pf.mk a b k)))) ∧ ∀ (p : Nat), Nat.le p (List.length (Go.Sx.M.drR l (Go.Sx.M.Pf.mk a b k))) → (Decidable.decide ((↑p : Int) < (↑(List.length (List.map Go.Proofs.Ytffcpblbdfjagaa.L1.roE (Go.Sx.M.drR l (Go.Sx.M.Pf.mk a b k)))) : Int)) = Bool.true → ((!Go.Proofs.Ytffcpblbdfjagaa.L1.abv (Go.Sx.M.drR l (Go.Sx.M.Pf.mk a b k)) (Go.Sx.M.Pf.mk a b k) p) = Bool.true → ((0 : Int) ≤ (↑p : Int) ∧ (↑p : Int) < (↑(List.length (List.map Go.Proofs.Ytffcpblbdfjagaa.L1.roE (Go.Sx.M.drR l (Go.Sx.M.Pf.mk a b k)))) : Int)) ∧ Go.Sx.Blk.read Go.Proofs.Try.prog (Go.Sx.Blk.mk Bool.true (36 : Go.TypeId) (4 : Nat) Bool.true (List.map Go.Proofs.Ytffcpblbdfjagaa.L1.roE (Go.Sx.M.drR l (Go.Sx.M.Pf.mk a b k)))) (34 : Nat) ((0 : Nat) + Int.toNat (↑p : Int)) ((0 : Nat) + (0 : Nat)) = Option.some (Go.Sx.AV.agg [Go.Sx.AV.w64 (Go.Sx.M.Ro.p (Go.Sx.M.at' (Go.Sx.M.drR l (Go.Sx.M.Ro.p (Go.Sx.M.Ro.mk (Go.Sx.M.Pf.mk a b k) j))) p)).1, Go.Sx.AV.w64 (Go.Sx.M.Ro.p (Go.Sx.M.at' (Go.Sx.M.drR l (Go.Sx.M.Ro.p (Go.Sx.M.Ro.mk (Go.Sx.M.Pf.mk a b k) j))) p)).2, Go.Sx.AV.int Go.IntKind.i64 (Go.Sx.M.Ro.p (Go.Sx.M.at' (Go.Sx.M.drR l (Go.Sx.M.Ro.p (Go.Sx.M.Ro.mk (Go.Sx.M.Pf.mk a b k) j))) p)).3]) ∧ (Decidable.decide (Go.Proofs.Ytffcpblbdfjagaa.L1.cmpP (Go.Sx.M.Ro.p (Go.Sx.M.at' (Go.Sx.M.drR l (Go.Sx.M.Ro.p (Go.Sx.M.Ro.mk (Go.Sx.M.Pf.mk a b k) j))) p)).1 (Go.Sx.M.Ro.p (Go.Sx.M.at' (Go.Sx.M.drR l (Go.Sx.M.Ro.p (Go.Sx.M.Ro.mk (Go.Sx.M.Pf.mk a b k) j))) p)).2 (Go.Sx.M.Ro.p (Go.Sx.M.at' (Go.Sx.M.drR l (Go.Sx.M.Ro.p (Go.Sx.M.Ro.mk (Go.Sx.M.Pf.mk a b k) j))) p)).3 a b k > (0 : Int)) = Bool.true → ((List.length (Go.Proofs.Ytffcpblbdfjagaa.L1.ptG (Go.Sx.M.drR l (Go.Sx.M.Pf.mk a b k)) (Go.Sx.M.Ro.mk (Go.Sx.M.Pf.mk a b k) j) p) + (1 : Nat)) * (32 : Nat) ≤ (140737488355328 : Nat) ∧ List.length (Go.Proofs.Ytffcpblbdfjagaa.L1.ptG (Go.Sx.M.drR l (Go.Sx.M.Pf.mk a b k)) (Go.Sx.M.Ro.mk (Go.Sx.M.Pf.mk a b k) j) p) + (1 : Nat) ≤ (9223372036854775807 : Nat) ∧ (0 : Nat) + (1 : Nat) ≤ List.length [Go.Sx.AV.agg [Go.Sx.AV.w64 a, Go.Sx.AV.w64 b, Go.Sx.AV.int Go.IntKind.i64 k, Go.Sx.AV.int Go.IntKind.i64 j]] ∧ List.length (Go.Proofs.Ytffcpblbdfjagaa.L1.ptG (Go.Sx.M.drR l (Go.Sx.M.Pf.mk a b k)) (Go.Sx.M.Ro.mk (Go.Sx.M.Pf.mk a b k) j) p) ≤ List.length (F (Go.Proofs.Ytffcpblbdfjagaa.L1.ptG (Go.Sx.M.drR l (Go.Sx.M.Pf.mk a b k)) (Go.Sx.M.Ro.mk (Go.Sx.M.Pf.mk a b k) j) p))) ∧ List.take (List.length (Go.Proofs.Ytffcpblbdfjagaa.L1.ptG (Go.Sx.M.drR l (Go.Sx.M.Pf.mk a b k)) (Go.Sx.M.Ro.mk (Go.Sx.M.Pf.mk a b k) j) p)) (F (Go.Proofs.Ytffcpblbdfjagaa.L1.ptG (Go.Sx.M.drR l (Go.Sx.M.Pf.mk a b k)) (Go.Sx.M.Ro.mk (Go.Sx.M.Pf.mk a b k) j) p)) ++ [Go.Sx.AV.agg [Go.Sx.AV.w64 a, Go.Sx.AV.w64 b, Go.Sx.AV.int Go.IntKind.i64 k, Go.Sx.AV.int Go.IntKind.i64 j]] = F (Go.Proofs.Ytffcpblbdfjagaa.L1.ptG (Go.Sx.M.drR l (Go.Sx.M.Pf.mk a b k)) (Go.Sx.M.Ro.mk (Go.Sx.M.Pf.mk a b k) j) p ++ [Go.Sx.M.Ro.mk (Go.Sx.M.Pf.mk a b k) j]) ∧ ((0 : Int) ≤ (↑p : Int) ∧ (↑p : Int) < (↑(List.length (List.map Go.Proofs.Ytffcpblbdfjagaa.L1.roE (Go.Sx.M.drR l (Go.Sx.M.Pf.mk a b k)))) : Int)) ∧ Go.Sx.Blk.read Go.Proofs.Try.prog (Go.Sx.Blk.mk Bool.true (36 : Go.TypeId) (4 : Nat) Bool.true (List.map Go.Proofs.Ytffcpblbdfjagaa.L1.roE (Go.Sx.M.drR l (Go.Sx.M.Pf.mk a b k)))) (36 : Nat) ((0 : Nat) + Int.toNat (↑p : Int)) (0 : Nat) = Option.some (Go.Sx.AV.agg [Go.Sx.AV.w64 (Go.Sx.M.Ro.p (Go.Sx.M.at' (Go.Sx.M.drR l (Go.Sx.M.Ro.p (Go.Sx.M.Ro.mk (Go.Sx.M.Pf.mk a b k) j))) p)).1, Go.Sx.AV.w64 (Go.Sx.M.Ro.p (Go.Sx.M.at' (Go.Sx.M.drR l (Go.Sx.M.Ro.p (Go.Sx.M.Ro.mk (Go.Sx.M.Pf.mk a b k) j))) p)).2, Go.Sx.AV.int Go.IntKind.i64 (Go.Sx.M.Ro.p (Go.Sx.M.at' (Go.Sx.M.drR l (Go.Sx.M.Ro.p (Go.Sx.M.Ro.mk (Go.Sx.M.Pf.mk a b k) j))) p)).3, Go.Sx.AV.int Go.IntKind.i64 (Go.Sx.M.at' (Go.Sx.M.drR l (Go.Sx.M.Ro.p (Go.Sx.M.Ro.mk (Go.Sx.M.Pf.mk a b k) j))) p).2]) ∧ ((List.length (Go.Proofs.Ytffcpblbdfjagaa.L1.ptG (Go.Sx.M.drR l (Go.Sx.M.Pf.mk a b k)) (Go.Sx.M.Ro.mk (Go.Sx.M.Pf.mk a b k) j) p) + (1 : Nat) + (1 : Nat)) * (32 : Nat) ≤ (140737488355328 : Nat) ∧ List.length (Go.Proofs.Ytffcpblbdfjagaa.L1.ptG (Go.Sx.M.drR l (Go.Sx.M.Pf.mk a b k)) (Go.Sx.M.Ro.mk (Go.Sx.M.Pf.mk a b k) j) p) + (1 : Nat) + (1 : Nat) ≤ (9223372036854775807 : Nat) ∧ (0 : Nat) + (1 : Nat) ≤ List.length [Go.Sx.AV.agg [Go.Sx.AV.w64 (Go.Sx.M.Ro.p (Go.Sx.M.at' (Go.Sx.M.drR l (Go.Sx.M.Ro.p (Go.Sx.M.Ro.mk (Go.Sx.M.Pf.mk a b k) j))) p)).1, Go.Sx.AV.w64 (Go.Sx.M.Ro.p (Go.Sx.M.at' (Go.Sx.M.drR l (Go.Sx.M.Ro.p (Go.Sx.M.Ro.mk (Go.Sx.M.Pf.mk a b k) j))) p)).2, Go.Sx.AV.int Go.IntKind.i64 (Go.Sx.M.Ro.p (Go.Sx.M.at' (Go.Sx.M.drR l (Go.Sx.M.Ro.p (Go.Sx.M.Ro.mk (Go.Sx.M.Pf.mk a b k) j))) p)).3, Go.Sx.AV.int Go.IntKind.i64 (Go.Sx.M.at' (Go.Sx.M.drR l (Go.Sx.M.Ro.p (Go.Sx.M.Ro.mk (Go.Sx.M.Pf.mk a b k) j))) p).2]] ∧ List.length (Go.Proofs.Ytffcpblbdfjagaa.L1.ptG (Go.Sx.M.drR l (Go.Sx.M.Pf.mk a b k)) (Go.Sx.M.Ro.mk (Go.Sx.M.Pf.mk a b k) j) p) + (1 : Nat) ≤ List.length (F (Go.Proofs.Ytffcpblbdfjagaa.L1.ptG (Go.Sx.M.drR l (Go.Sx.M.Pf.mk a b k)) (Go.Sx.M.Ro.mk (Go.Sx.M.Pf.mk a b k) j) p ++ [Go.Sx.M.Ro.mk (Go.Sx.M.Pf.mk a b k) j]))) ∧ List.take (List.length (Go.Proofs.Ytffcpblbdfjagaa.L1.ptG (Go.Sx.M.drR l (Go.Sx.M.Pf.mk a b k)) (Go.Sx.M.Ro.mk (Go.Sx.M.Pf.mk a b k) j) p) + (1 : Nat)) (F (Go.Proofs.Ytffcpblbdfjagaa.L1.ptG (Go.Sx.M.drR l (Go.Sx.M.Pf.mk a b k)) (Go.Sx.M.Ro.mk (Go.Sx.M.Pf.mk a b k) j) p ++ [Go.Sx.M.Ro.mk (Go.Sx.M.Pf.mk a b k) j])) ++ [Go.Sx.AV.agg [Go.Sx.AV.w64 (Go.Sx.M.Ro.p (Go.Sx.M.at' (Go.Sx.M.drR l (Go.Sx.M.Ro.p (Go.Sx.M.Ro.mk (Go.Sx.M.Pf.mk a b k) j))) p)).1, Go.Sx.AV.w64 (Go.Sx.M.Ro.p (Go.Sx.M.at' (Go.Sx.M.drR l (Go.Sx.M.Ro.p (Go.Sx.M.Ro.mk (Go.Sx.M.Pf.mk a b k) j))) p)).2, Go.Sx.AV.int Go.IntKind.i64 (Go.Sx.M.Ro.p (Go.Sx.M.at' (Go.Sx.M.drR l (Go.Sx.M.Ro.p (Go.Sx.M.Ro.mk (Go.Sx.M.Pf.mk a b k) j))) p)).3, Go.Sx.AV.int Go.IntKind.i64 (Go.Sx.M.at' (Go.Sx.M.drR l (Go.Sx.M.Ro.p (Go.Sx.M.Ro.mk (Go.Sx.M.Pf.mk a b k) j))) p).2]] = F (Go.Proofs.Ytffcpblbdfjagaa.L1.ptG (Go.Sx.M.drR l (Go.Sx.M.Pf.mk a b k)) (Go.Sx.M.Ro.mk (Go.Sx.M.Pf.mk a b k) j) (p + (1 : Nat))) ∧ Go.Sx.inRange Go.IntKind.i64 ((↑p : Int) + (1 : Int)) ∧ ∃ (p' : Nat), Go.Sx.St.mk [Go.Sx.AV.any, Go.Sx.AV.any, Go.Sx.AV.any, Go.Sx.AV.ptr ((0 : Nat) + (1 : Nat)) (0 : Nat) (0 : Nat) Bool.true, Go.Sx.AV.any, Go.Sx.AV.vsl ((0 : Nat) + (1 : Nat) + (1 : Nat) + (1 : Nat)) (0 : Nat) (List.length (Go.Proofs.Ytffcpblbdfjagaa.L1.ptG (Go.Sx.M.drR l (Go.Sx.M.Pf.mk a b k)) (Go.Sx.M.Ro.mk (Go.Sx.M.Pf.mk a b k) j) p) + (1 : Nat) + (1 : Nat)), Go.Sx.AV.bool Bool.true, Go.Sx.AV.vsl ((0 : Nat) + (1 : Nat) + (1 : Nat)) (0 : Nat) (List.length (List.map Go.Proofs.Ytffcpblbdfjagaa.L1.roE (Go.Sx.M.drR l (Go.Sx.M.Pf.mk a b k)))), Go.Sx.AV.int Go.IntKind.i64 ((↑p : Int) + (1 : Int)), Go.Sx.AV.any, Go.Sx.AV.any, Go.Sx.AV.any, Go.Sx.AV.any, Go.Sx.AV.any, Go.Sx.AV.any, Go.Sx.AV.any, Go.Sx.AV.any, Go.Sx.AV.any, Go.Sx.AV.any, Go.Sx.AV.any, Go.Sx.AV.any, Go.Sx.AV.any, Go.Sx.AV.any, Go.Sx.AV.any, Go.Sx.AV.any, Go.Sx.AV.any, Go.Sx.AV.any, Go.Sx.AV.any, Go.Sx.AV.any, Go.Sx.AV.any, Go.Sx.AV.any, Go.Sx.AV.any, Go.Sx.AV.any, Go.Sx.AV.any, Go.Sx.AV.any, Go.Sx.AV.any, Go.Sx.AV.any, Go.Sx.AV.any, Go.Sx.AV.any, Go.Sx.AV.any, Go.Sx.AV.any, Go.Sx.AV.any, Go.Sx.AV.any, Go.Sx.AV.any, Go.Sx.AV.any, Go.Sx.AV.any, Go.Sx.AV.any, Go.Sx.AV.any, Go.Sx.AV.any, Go.Sx.AV.any] [Option.some (Go.Sx.Blk.mk Bool.false (36 : Go.TypeId) (4 : Nat) Bool.true (List.map Go.Proofs.Ytffcpblbdfjagaa.L1.roE l)), Option.some (Go.Sx.Blk.mk Bool.true (36 : Go.TypeId) (4 : Nat) Bool.true [Go.Sx.AV.agg [Go.Sx.AV.w64 a, Go.Sx.AV.w64 b, Go.Sx.AV.int Go.IntKind.i64 k, Go.Sx.AV.int Go.IntKind.i64 j]]), Option.some (Go.Sx.Blk.mk Bool.true (36 : Go.TypeId) (4 : Nat) Bool.true (List.map Go.Proofs.Ytffcpblbdfjagaa.L1.roE (Go.Sx.M.drR l (Go.Sx.M.Pf.mk a b k)))), Option.some (Go.Sx.Blk.mk Bool.true (36 : Nat) (4 : Nat) Bool.true (F (Go.Proofs.Ytffcpblbdfjagaa.L1.ptG (Go.Sx.M.drR l (Go.Sx.M.Pf.mk a b k)) (Go.Sx.M.Ro.mk (Go.Sx.M.Pf.mk a b k) j) (p + (1 : Nat)))))] = Go.Proofs.Ytffcpblbdfjagaa.L1.ptSt F l (Go.Sx.M.drR l (Go.Sx.M.Pf.mk a b k)) (Go.Sx.M.Ro.mk (Go.Sx.M.Pf.mk a b k) j) p' ∧ Nat.le p' (List.length (Go.Sx.M.drR l (Go.Sx.M.Pf.mk a b k))) ∧ List.length (Go.Sx.M.drR l (Go.Sx.M.Pf.mk a b k)) + (1 : Nat) - p' < List.length (Go.Sx.M.drR l (Go.Sx.M.Pf.mk a b k)) + (1 : Nat) - p) ∧ (Decidable.decide (Go.Proofs.Ytffcpblbdfjagaa.L1.cmpP (Go.Sx.M.Ro.p (Go.Sx.M.at' (Go.Sx.M.drR l (Go.Sx.M.Ro.p (Go.Sx.M.Ro.mk (Go.Sx.M.Pf.mk a b k) j))) p)).1 (Go.Sx.M.Ro.p (Go.Sx.M.at' (Go.Sx.M.drR l (Go.Sx.M.Ro.p (Go.Sx.M.Ro.mk (Go.Sx.M.Pf.mk a b k) j))) p)).2 (Go.Sx.M.Ro.p (Go.Sx.M.at' (Go.Sx.M.drR l (Go.Sx.M.Ro.p (Go.Sx.M.Ro.mk (Go.Sx.M.Pf.mk a b k) j))) p)).3 a b k > (0 : Int)) = Bool.false → ((0 : Int) ≤ (↑p : Int) ∧ (↑p : Int) < (↑(List.length (List.map Go.Proofs.Ytffcpblbdfjagaa.L1.roE (Go.Sx.M.drR l (Go.Sx.M.Pf.mk a b k)))) : Int)) ∧ Go.Sx.Blk.read Go.Proofs.Try.prog (Go.Sx.Blk.mk Bool.true (36 : Go.TypeId) (4 : Nat) Bool.true (List.map Go.Proofs.Ytffcpblbdfjagaa.L1.roE (Go.Sx.M.drR l (Go.Sx.M.Pf.mk a b k)))) (36 : Nat) ((0 : Nat) + Int.toNat (↑p : Int)) (0 : Nat) = Option.some (Go.Sx.AV.agg [Go.Sx.AV.w64 (Go.Sx.M.Ro.p (Go.Sx.M.at' (Go.Sx.M.drR l (Go.Sx.M.Ro.p (Go.Sx.M.Ro.mk (Go.Sx.M.Pf.mk a b k) j))) p)).1, Go.Sx.AV.w64 (Go.Sx.M.Ro.p (Go.Sx.M.at' (Go.Sx.M.drR l (Go.Sx.M.Ro.p (Go.Sx.M.Ro.mk (Go.Sx.M.Pf.mk a b k) j))) p)).2, Go.Sx.AV.int Go.IntKind.i64 (Go.Sx.M.Ro.p (Go.Sx.M.at' (Go.Sx.M.drR l (Go.Sx.M.Ro.p (Go.Sx.M.Ro.mk (Go.Sx.M.Pf.mk a b k) j))) p)).3, Go.Sx.AV.int Go.IntKind.i64 (Go.Sx.M.at' (Go.Sx.M.drR l (Go.Sx.M.Ro.p (Go.Sx.M.Ro.mk (Go.Sx.M.Pf.mk a b k) j))) p).2]) ∧ ((List.length (Go.Proofs.Ytffcpblbdfjagaa.L1.ptG (Go.Sx.M.drR l (Go.Sx.M.Pf.mk a b k)) (Go.Sx.M.Ro.mk (Go.Sx.M.Pf.mk a b k) j) p) + (1 : Nat)) * (32 : Nat) ≤ (140737488355328 : Nat) ∧ List.length (Go.Proofs.Ytffcpblbdfjagaa.L1.ptG (Go.Sx.M.drR l (Go.Sx.M.Pf.mk a b k)) (Go.Sx.M.Ro.mk (Go.Sx.M.Pf.mk a b k) j) p) + (1 : Nat) ≤ (9223372036854775807 : Nat) ∧ (0 : Nat) + (1 : Nat) ≤ List.length [Go.Sx.AV.agg [Go.Sx.AV.w64 (Go.Sx.M.Ro.p (Go.Sx.M.at' (Go.Sx.M.drR l (Go.Sx.M.Ro.p (Go.Sx.M.Ro.mk (Go.Sx.M.Pf.mk a b k) j))) p)).1, Go.Sx.AV.w64 (Go.Sx.M.Ro.p (Go.Sx.M.at' (Go.Sx.M.drR l (Go.Sx.M.Ro.p (Go.Sx.M.Ro.mk (Go.Sx.M.Pf.mk a b k) j))) p)).2, Go.Sx.AV.int Go.IntKind.i64 (Go.Sx.M.Ro.p (Go.Sx.M.at' (Go.Sx.M.drR l (Go.Sx.M.Ro.p (Go.Sx.M.Ro.mk (Go.Sx.M.Pf.mk a b k) j))) p)).3, Go.Sx.AV.int Go.IntKind.i64 (Go.Sx.M.at' (Go.Sx.M.drR l (Go.Sx.M.Ro.p (Go.Sx.M.Ro.mk (Go.Sx.M.Pf.mk a b k) j))) p).2]] ∧ List.length (Go.Proofs.Ytffcpblbdfjagaa.L1.ptG (Go.Sx.M.drR l (Go.Sx.M.Pf.mk a b k)) (Go.Sx.M.Ro.mk (Go.Sx.M.Pf.mk a b k) j) p) ≤ List.length (F (Go.Proofs.Ytffcpblbdfjagaa.L1.ptG (Go.Sx.M.drR l (Go.Sx.M.Pf.mk a b k)) (Go.Sx.M.Ro.mk (Go.Sx.M.Pf.mk a b k) j) p))) ∧ List.take (List.length (Go.Proofs.Ytffcpblbdfjagaa.L1.ptG (Go.Sx.M.drR l (Go.Sx.M.Pf.mk a b k)) (Go.Sx.M.Ro.mk (Go.Sx.M.Pf.mk a b k) j) p)) (F (Go.Proofs.Ytffcpblbdfjagaa.L1.ptG (Go.Sx.M.drR l (Go.Sx.M.Pf.mk a b k)) (Go.Sx.M.Ro.mk (Go.Sx.M.Pf.mk a b k) j) p)) ++ [Go.Sx.AV.agg [Go.Sx.AV.w64 (Go.Sx.M.Ro.p (Go.Sx.M.at' (Go.Sx.M.drR l (Go.Sx.M.Ro.p (Go.Sx.M.Ro.mk (Go.Sx.M.Pf.mk a b k) j))) p)).1, Go.Sx.AV.w64 (Go.Sx.M.Ro.p (Go.Sx.M.at' (Go.Sx.M.drR l (Go.Sx.M.Ro.p (Go.Sx.M.Ro.mk (Go.Sx.M.Pf.mk a b k) j))) p)).2, Go.Sx.AV.int Go.IntKind.i64 (Go.Sx.M.Ro.p (Go.Sx.M.at' (Go.Sx.M.drR l (Go.Sx.M.Ro.p (Go.Sx.M.Ro.mk (Go.Sx.M.Pf.mk a b k) j))) p)).3, Go.Sx.AV.int Go.IntKind.i64 (Go.Sx.M.at' (Go.Sx.M.drR l (Go.Sx.M.Ro.p (Go.Sx.M.Ro.mk (Go.Sx.M.Pf.mk a b k) j))) p).2]] = F (Go.Proofs.Ytffcpblbdfjagaa.L1.ptG (Go.Sx.M.drR l (Go.Sx.M.Pf.mk a b k)) (Go.Sx.M.Ro.mk (Go.Sx.M.Pf.mk a b k) j) (p + (1 : Nat))) ∧ Go.Sx.inRange Go.IntKind.i64 ((↑p : Int) + (1 : Int)) ∧ ∃ (p' : Nat), Go.Sx.St.mk [Go.Sx.AV.any, Go.Sx.AV.any, Go.Sx.AV.any, Go.Sx.AV.ptr ((0 : Nat) + (1 : Nat)) (0 : Nat) (0 : Nat) Bool.true, Go.Sx.AV.any, Go.Sx.AV.vsl ((0 : Nat) + (1 : Nat) + (1 : Nat) + (1 : Nat)) (0 : Nat) (List.length (Go.Proofs.Ytffcpblbdfjagaa.L1.ptG (Go.Sx.M.drR l (Go.Sx.M.Pf.mk a b k)) (Go.Sx.M.Ro.mk (Go.Sx.M.Pf.mk a b k) j) p) + (1 : Nat)), Go.Sx.AV.bool (Go.Proofs.Ytffcpblbdfjagaa.L1.abv (Go.Sx.M.drR l (Go.Sx.M.Pf.mk a b k)) (Go.Sx.M.Pf.mk a b k) p), Go.Sx.AV.vsl ((0 : Nat) + (1 : Nat) + (1 : Nat)) (0 : Nat) (List.length (List.map Go.Proofs.Ytffcpblbdfjagaa.L1.roE (Go.Sx.M.drR l (Go.Sx.M.Pf.mk a b k)))), Go.Sx.AV.int Go.IntKind.i64 ((↑p : Int) + (1 : Int)), Go.Sx.AV.any, Go.Sx.AV.any, Go.Sx.AV.any, Go.Sx.AV.any, Go.Sx.AV.any, Go.Sx.AV.any, Go.Sx.AV.any, Go.Sx.AV.any, Go.Sx.AV.any, Go.Sx.AV.any, Go.Sx.AV.any, Go.Sx.AV.any, Go.Sx.AV.any, Go.Sx.AV.any, Go.Sx.AV.any, Go.Sx.AV.any, Go.Sx.AV.any, Go.Sx.AV.any, Go.Sx.AV.any, Go.Sx.AV.any, Go.Sx.AV.any, Go.Sx.AV.any, Go.Sx.AV.any, Go.Sx.AV.any, Go.Sx.AV.any, Go.Sx.AV.any, Go.Sx.AV.any, Go.Sx.AV.any, Go.Sx.AV.any, Go.Sx.AV.any, Go.Sx.AV.any, Go.Sx.AV.any, Go.Sx.AV.any, Go.Sx.AV.any, Go.Sx.AV.any, Go.Sx.AV.any, Go.Sx.AV.any, Go.Sx.AV.any, Go.Sx.AV.any, Go.Sx.AV.any, Go.Sx.AV.any] [Option.some (Go.Sx.Blk.mk Bool.false (36 : Go.TypeId) (4 : Nat) Bool.true (List.map Go.Proofs.Ytffcpblbdfjagaa.L1.roE l)), Option.some (Go.Sx.Blk.mk Bool.true (36 : Go.TypeId) (4 : Nat) Bool.true [Go.Sx.AV.agg [Go.Sx.AV.w64 a, Go.Sx.AV.w64 b, Go.Sx.AV.int Go.IntKind.i64 k, Go.Sx.AV.int Go.IntKind.i64 j]]), Option.some (Go.Sx.Blk.mk Bool.true (36 : Go.TypeId) (4 : Nat) Bool.true (List.map Go.Proofs.Ytffcpblbdfjagaa.L1.roE (Go.Sx.M.drR l (Go.Sx.M.Pf.mk a b k)))), Option.some (Go.Sx.Blk.mk Bool.true (36 : Nat) (4 : Nat) Bool.true (F (Go.Proofs.Ytffcpblbdfjagaa.L1.ptG (Go.Sx.M.drR l (Go.Sx.M.Pf.mk a b k)) (Go.Sx.M.Ro.mk (Go.Sx.M.Pf.mk a b k) j) (p + (1 : Nat)))))] = Go.Proofs.Ytffcpblbdfjagaa.L1.ptSt F l (Go.Sx.M.drR l (Go.Sx.M.Pf.mk a b k)) (Go.Sx.M.Ro.mk (Go.Sx.M.Pf.mk a b k) j) p' ∧ Nat.le p' (List.length (Go.Sx.M.drR l (Go.Sx.M.Pf.mk a b k))) ∧ List.length (Go.Sx.M.drR l (Go.Sx.M.Pf.mk a b k)) + (1 : Nat) - p' < List.length (Go.Sx.M.drR l (Go.Sx.M.Pf.mk a b k)) + (1 : Nat) - p)) ∧ ((!Go.Proofs.Ytffcpblbdfjagaa.L1.abv (Go.Sx.M.drR l (Go.Sx.M.Pf.mk a b k)) (Go.Sx.M.Pf.mk a b k) p) = Bool.false → ((0 : Int) ≤ (↑p : Int) ∧ (↑p : Int) < (↑(List.length (List.map Go.Proofs.Ytffcpblbdfjagaa.L1.roE (Go.Sx.M.drR l (Go.Sx.M.Pf.mk a b k)))) : Int)) ∧ Go.Sx.Blk.read Go.Proofs.Try.prog (Go.Sx.Blk.mk Bool.true (36 : Go.TypeId) (4 : Nat) Bool.true (List.map Go.Proofs.Ytffcpblbdfjagaa.L1.roE (Go.Sx.M.drR l (Go.Sx.M.Pf.mk a b k)))) (36 : Nat) ((0 : Nat) + Int.toNat (↑p : Int)) (0 : Nat) = Option.some (Go.Sx.AV.agg [Go.Sx.AV.w64 (Go.Sx.M.Ro.p (Go.Sx.M.at' (Go.Sx.M.drR l (Go.Sx.M.Ro.p (Go.Sx.M.Ro.mk (Go.Sx.M.Pf.mk a b k) j))) p)).1, Go.Sx.AV.w64 (Go.Sx.M.Ro.p (Go.Sx.M.at' (Go.Sx.M.drR l (Go.Sx.M.Ro.p (Go.Sx.M.Ro.mk (Go.Sx.M.Pf.mk a b k) j))) p)).2, Go.Sx.AV.int Go.IntKind.i64 (Go.Sx.M.Ro.p (Go.Sx.M.at' (Go.Sx.M.drR l (Go.Sx.M.Ro.p (Go.Sx.M.Ro.mk (Go.Sx.M.Pf.mk a b k) j))) p)).3, Go.Sx.AV.int Go.IntKind.i64 (Go.Sx.M.at' (Go.Sx.M.drR l (Go.Sx.M.Ro.p (Go.Sx.M.Ro.mk (Go.Sx.M.Pf.mk a b k) j))) p).2]) ∧ ((List.length (Go.Proofs.Ytffcpblbdfjagaa.L1.ptG (Go.Sx.M.drR l (Go.Sx.M.Pf.mk a b k)) (Go.Sx.M.Ro.mk (Go.Sx.M.Pf.mk a b k) j) p) + (1 : Nat)) * (32 : Nat) ≤ (140737488355328 : Nat) ∧ List.length (Go.Proofs.Ytffcpblbdfjagaa.L1.ptG (Go.Sx.M.drR l (Go.Sx.M.Pf.mk a b k)) (Go.Sx.M.Ro.mk (Go.Sx.M.Pf.mk a b k) j) p) + (1 : Nat) ≤ (9223372036854775807 : Nat) ∧ (0 : Nat) + (1 : Nat) ≤ List.length [Go.Sx.AV.agg [Go.Sx.AV.w64 (Go.Sx.M.Ro.p (Go.Sx.M.at' (Go.Sx.M.drR l (Go.Sx.M.Ro.p (Go.Sx.M.Ro.mk (Go.Sx.M.Pf.mk a b k) j))) p)).1, Go.Sx.AV.w64 (Go.Sx.M.Ro.p (Go.Sx.M.at' (Go.Sx.M.drR l (Go.Sx.M.Ro.p (Go.Sx.M.Ro.mk (Go.Sx.M.Pf.mk a b k) j))) p)).2, Go.Sx.AV.int Go.IntKind.i64 (Go.Sx.M.Ro.p (Go.Sx.M.at' (Go.Sx.M.drR l (Go.Sx.M.Ro.p (Go.Sx.M.Ro.mk (Go.Sx.M.Pf.mk a b k) j))) p)).3, Go.Sx.AV.int Go.IntKind.i64 (Go.Sx.M.at' (Go.Sx.M.drR l (Go.Sx.M.Ro.p (Go.Sx.M.Ro.mk (Go.Sx.M.Pf.mk a b k) j))) p).2]] ∧ List.length (Go.Proofs.Ytffcpblbdfjagaa.L1.ptG (Go.Sx.M.drR l (Go.Sx.M.Pf.mk a b k)) (Go.Sx.M.Ro.mk (Go.Sx.M.Pf.mk a b k) j) p) ≤ List.length (F (Go.Proofs.Ytffcpblbdfjagaa.L1.ptG (Go.Sx.M.drR l (Go.Sx.M.Pf.mk a b k)) (Go.Sx.M.Ro.mk (Go.Sx.M.Pf.mk a b k) j) p))) ∧ List.take (List.length (Go.Proofs.Ytffcpblbdfjagaa.L1.ptG (Go.Sx.M.drR l (Go.Sx.M.Pf.mk a b k)) (Go.Sx.M.Ro.mk (Go.Sx.M.Pf.mk a b k) j) p)) (F (Go.Proofs.Ytffcpblbdfjagaa.L1.ptG (Go.Sx.M.drR l (Go.Sx.M.Pf.mk a b k)) (Go.Sx.M.Ro.mk (Go.Sx.M.Pf.mk a b k) j) p)) ++ [Go.Sx.AV.agg [Go.Sx.AV.w64 (Go.Sx.M.Ro.p (Go.Sx.M.at' (Go.Sx.M.drR l (Go.Sx.M.Ro.p (Go.Sx.M.Ro.mk (Go.Sx.M.Pf.mk a b k) j))) p)).1, Go.Sx.AV.w64 (Go.Sx.M.Ro.p (Go.Sx.M.at' (Go.Sx.M.drR l (Go.Sx.M.Ro.p (Go.Sx.M.Ro.mk (Go.Sx.M.Pf.mk a b k) j))) p)).2, Go.Sx.AV.int Go.IntKind.i64 (Go.Sx.M.Ro.p (Go.Sx.M.at' (Go.Sx.M.drR l (Go.Sx.M.Ro.p (Go.Sx.M.Ro.mk (Go.Sx.M.Pf.mk a b k) j))) p)).3, Go.Sx.AV.int Go.IntKind.i64 (Go.Sx.M.at' (Go.Sx.M.drR l (Go.Sx.M.Ro.p (Go.Sx.M.Ro.mk (Go.Sx.M.Pf.mk a b k) j))) p).2]] = F (Go.Proofs.Ytffcpblbdfjagaa.L1.ptG (Go.Sx.M.drR l (Go.Sx.M.Pf.mk a b k)) (Go.Sx.M.Ro.mk (Go.Sx.M.Pf.mk a b k) j) (p + (1 : Nat))) ∧ Go.Sx.inRange Go.IntKind.i64 ((↑p : Int) + (1 : Int)) ∧ ∃ (p' : Nat), Go.Sx.St.mk [Go.Sx.AV.any, Go.Sx.AV.any, Go.Sx.AV.any, Go.Sx.AV.ptr ((0 : Nat) + (1 : Nat)) (0 : Nat) (0 : Nat) Bool.true, Go.Sx.AV.any, Go.Sx.AV.vsl ((0 : Nat) + (1 : Nat) + (1 : Nat) + (1 : Nat)) (0 : Nat) (List.length (Go.Proofs.Ytffcpblbdfjagaa.L1.ptG (Go.Sx.M.drR l (Go.Sx.M.Pf.mk a b k)) (Go.Sx.M.Ro.mk (Go.Sx.M.Pf.mk a b k) j) p) + (1 : Nat)), Go.Sx.AV.bool (Go.Proofs.Ytffcpblbdfjagaa.L1.abv (Go.Sx.M.drR l (Go.Sx.M.Pf.mk a b k)) (Go.Sx.M.Pf.mk a b k) p), Go.Sx.AV.vsl ((0 : Nat) + (1 : Nat) + (1 : Nat)) (0 : Nat) (List.length (List.map Go.Proofs.Ytffcpblbdfjagaa.L1.roE (Go.Sx.M.drR l (Go.Sx.M.Pf.mk a b k)))), Go.Sx.AV.int Go.IntKind.i64 ((↑p : Int) + (1 : Int)), Go.Sx.AV.any, Go.Sx.AV.any, Go.Sx.AV.any, Go.Sx.AV.any, Go.Sx.AV.any, Go.Sx.AV.any, Go.Sx.AV.any, Go.Sx.AV.any, Go.Sx.AV.any, Go.Sx.AV.any, Go.Sx.AV.any, Go.Sx.AV.any, Go.Sx.AV.any, Go.Sx.AV.any, Go.Sx.AV.any, Go.Sx.AV.any, Go.Sx.AV.any, Go.Sx.AV.any, Go.Sx.AV.any, Go.Sx.AV.any, Go.Sx.AV.any, Go.Sx.AV.any, Go.Sx.AV.any, Go.Sx.AV.any, Go.Sx.AV.any, Go.Sx.AV.any, Go.Sx.AV.any, Go.Sx.AV.any, Go.Sx.AV.any, Go.Sx.AV.any, Go.Sx.AV.any, Go.Sx.AV.any, Go.Sx.AV.any, Go.Sx.AV.any, Go.Sx.AV.any, Go.Sx.AV.any, Go.Sx.AV.any, Go.Sx.AV.any, Go.Sx.AV.any, Go.Sx.AV.any, Go.Sx.AV.any] [Option.some (Go.Sx.Blk.mk Bool.false (36 : Go.TypeId) (4 : Nat) Bool.true (List.map Go.Proofs.Ytffcpblbdfjagaa.L1.roE l)), Option.some (Go.Sx.Blk.mk Bool.true (36 : Go.TypeId) (4 : Nat) Bool.true [Go.Sx.AV.agg [Go.Sx.AV.w64 a, Go.Sx.AV.w64 b, Go.Sx.AV.int Go.IntKind.i64 k, Go.Sx.AV.int Go.IntKind.i64 j]]), Option.some (Go.Sx.Blk.mk Bool.true (36 : Go.TypeId) (4 : Nat) Bool.true (List.map Go.Proofs.Ytffcpblbdfjagaa.L1.roE (Go.Sx.M.drR l (Go.Sx.M.Pf.mk a b k)))), Option.some (Go.Sx.Blk.mk Bool.true (36 : Nat) (4 : Nat) Bool.true (F (Go.Proofs.Ytffcpblbdfjagaa.L1.ptG (Go.Sx.M.drR l (Go.Sx.M.Pf.mk a b k)) (Go.Sx.M.Ro.mk (Go.Sx.M.Pf.mk a b k) j) (p + (1 : Nat)))))] = Go.Proofs.Ytffcpblbdfjagaa.L1.ptSt F l (Go.Sx.M.drR l (Go.Sx.M.Pf.mk a b k)) (Go.Sx.M.Ro.mk (Go.Sx.M.Pf.mk a b k) j) p' ∧ Nat.le p' (List.length (Go.Sx.M.drR l (Go.Sx.M.Pf.mk a b k))) ∧ List.length (Go.Sx.M.drR l (Go.Sx.M.Pf.mk a b k)) + (1 : Nat) - p' < List.length (Go.Sx.M.drR l (Go.Sx.M.Pf.mk a b k)) + (1 : Nat) - p)) ∧ (Decidable.decide ((↑p : Int) < (↑(List.length (List.map Go.Proofs.Ytffcpblbdfjagaa.L1.roE (Go.Sx.M.drR l (Go.Sx.M.Pf.mk a b k)))) : Int)) = Bool.false → ((!Go.Proofs.Ytffcpblbdfjagaa.L1.abv (Go.Sx.M.drR l (Go.Sx.M.Pf.mk a b k)) (Go.Sx.M.Pf.mk a b k) p) = Bool.true → ((List.length (Go.Proofs.Ytffcpblbdfjagaa.L1.ptG (Go.Sx.M.drR l (Go.Sx.M.Pf.mk a b k)) (Go.Sx.M.Ro.mk (Go.Sx.M.Pf.mk a b k) j) p) + (1 : Nat)) * (32 : Nat) ≤ (140737488355328 : Nat) ∧ List.length (Go.Proofs.Ytffcpblbdfjagaa.L1.ptG (Go.Sx.M.drR l (Go.Sx.M.Pf.mk a b k)) (Go.Sx.M.Ro.mk (Go.Sx.M.Pf.mk a b k) j) p) + (1 : Nat) ≤ (9223372036854775807 : Nat) ∧ (0 : Nat) + (1 : Nat) ≤ List.length [Go.Sx.AV.agg [Go.Sx.AV.w64 a, Go.Sx.AV.w64 b, Go.Sx.AV.int Go.IntKind.i64 k, Go.Sx.AV.int Go.IntKind.i64 j]] ∧ List.length (Go.Proofs.Ytffcpblbdfjagaa.L1.ptG (Go.Sx.M.drR l (Go.Sx.M.Pf.mk a b k)) (Go.Sx.M.Ro.mk (Go.Sx.M.Pf.mk a b k) j) p) ≤ List.length (F (Go.Proofs.Ytffcpblbdfjagaa.L1.ptG (Go.Sx.M.drR l (Go.Sx.M.Pf.mk a b k)) (Go.Sx.M.Ro.mk (Go.Sx.M.Pf.mk a b k) j) p))) ∧ List.take (List.length (Go.Proofs.Ytffcpblbdfjagaa.L1.ptG (Go.Sx.M.drR l (Go.Sx.M.Pf.mk a b k)) (Go.Sx.M.Ro.mk (Go.Sx.M.Pf.mk a b k) j) p)) (F (Go.Proofs.Ytffcpblbdfjagaa.L1.ptG (Go.Sx.M.drR l (Go.Sx.M.Pf.mk a b k)) (Go.Sx.M.Ro.mk (Go.Sx.M.Pf.mk a b k) j) p)) ++ [Go.Sx.AV.agg [Go.Sx.AV.w64 a, Go.Sx.AV.w64 b, Go.Sx.AV.int Go.IntKind.i64 k, Go.Sx.AV.int Go.IntKind.i64 j]] = F (Go.Sx.M.ptR l (Go.Sx.M.Ro.mk (Go.Sx.M.Pf.mk a b k) j)) ∧ List.length (Go.Proofs.Ytffcpblbdfjagaa.L1.ptG (Go.Sx.M.drR l (Go.Sx.M.Pf.mk a b k)) (Go.Sx.M.Ro.mk (Go.Sx.M.Pf.mk a b k) j) p) + (1 : Nat) = List.length es ∧ Option.some (Go.Sx.Blk.mk Bool.true (36 : Nat) (4 : Nat) Bool.true (F (Go.Sx.M.ptR l (Go.Sx.M.Ro.mk (Go.Sx.M.Pf.mk a b k) j)))) = Option.some (Go.Sx.Blk.mk Bool.true (36 : Go.TypeId) (4 : Nat) Bool.true es)) ∧ ((!Go.Proofs.Ytffcpblbdfjagaa.L1.abv (Go.Sx.M.drR l (Go.Sx.M.Pf.mk a b k)) (Go.Sx.M.Pf.mk a b k) p) = Bool.false → List.length (Go.Proofs.Ytffcpblbdfjagaa.L1.ptG (Go.Sx.M.drR l (Go.Sx.M.Pf.mk a b k)) (Go.Sx.M.Ro.mk (Go.Sx.M.Pf.mk a b k) j) p) = List.length es ∧ Option.some (Go.Sx.Blk.mk Bool.true (36 : Go.TypeId) (4 : Nat) Bool.true (F (Go.Proofs.Ytffcpblbdfjagaa.L1.ptG (Go.Sx.M.drR l (Go.Sx.M.Pf.mk a b k)) (Go.Sx.M.Ro.mk (Go.Sx.M.Pf.mk a b k) j) p))) = Option.some (Go.Sx.Blk.mk Bool.true (36 : Go.TypeId) (4 : Nat) Bool.true es)))) := by kernel_rfl

theorem rrputCs_ok : ∀ e ∈ rrputCs, SpecOK Try.prog e.1 e.2 := by
  intro e he
  simp only [rrputCs, List.mem_cons, List.not_mem_nil, or_false] at he
  rcases he with rfl | rfl
  · exact rrdrop_ok
  · exact rcmp_ok

theorem rrput_ok : SpecOK Try.prog 22 (genSpec [pRefR, none] rrputF) := by
  refine genSpec_ok (run_ok (l := rrputCs) rrputCs_ok mixed noNG) fun l R hF => ?_
  unfold rrputF at hF
  split at hF
  · rename_i r_l a b k j
    obtain ⟨hr_l, hl, hF⟩ := hF
    generalize deR r_l = l at hr_l hl hF
    subst hr_l
    refine ⟨_, hF, trivial, (ptH (List.map roE) l ⟨⟨a, b, k⟩, j⟩), ?_⟩
    show run rrputCs Try.prog _ [.vsl 0 0 (l.map roE).length, .agg [.w64 a, .w64 b, .int .i64 k, .int .i64 j]] [some ⟨false, (pRefR.getD (0, 0)).1, (pRefR.getD (0, 0)).2, true, (l.map roE)⟩] _ _
    rw [rrput_run]
    rw [whole_row, deR_map]
    have zero : ∀ D : List Ro, abv D ⟨a, b, k⟩ 0 = false ∧ ptG D ⟨⟨a, b, k⟩, j⟩ 0 = [] := fun D => by
      have h : abv D ⟨a, b, k⟩ 0 = false := abv_false.2 fun i hi => by omega
      exact ⟨h, ptG_none h⟩
    have key : ∀ D : List Ro, D.length ≤ 1000000 → ∀ p, p ≤ D.length → (ptG D ⟨⟨a, b, k⟩, j⟩ p).length ≤ 1000001 := fun D hD p _ => Nat.le_trans ptG_length (by omega)
    have hD : (drR l ⟨a, b, k⟩).length ≤ 1000000 := Nat.le_trans (drR_length l _) hl
    have hDm : ((drR l ⟨a, b, k⟩).map roE).length = (drR l ⟨a, b, k⟩).length := List.length_map _
    refine ⟨by omega, rfl, hl, ⟨by unfold ptSt; rw [(zero _).1, (zero _).2]; rfl, Nat.zero_le _⟩, ?_⟩
    intro p hp0
    have hp0 : p ≤ (drR l ⟨a, b, k⟩).length := hp0
    have hf := key _ hD p hp0
    have hfm : ((ptG (drR l ⟨a, b, k⟩) ⟨⟨a, b, k⟩, j⟩ p).map roE).length = (ptG (drR l ⟨a, b, k⟩) ⟨⟨a, b, k⟩, j⟩ p).length := List.length_map _
    have app : ∀ (es : List Ro) (x : Ro) (y : AV), y = roE x → List.take es.length (es.map roE) ++ [y] = (es ++ [x]).map roE := fun es x y hy => by
      rw [List.map_append, List.take_of_length_le (by rw [List.length_map]; exact Nat.le_refl _), hy]; rfl
    refine ⟨fun hlt => ?_, fun hge => ?_⟩
    · have hp : p < (drR l ⟨a, b, k⟩).length := by have := of_decide_eq_true hlt; omega
      have B : 0 ≤ (p : Int) ∧ (p : Int) < (((drR l ⟨a, b, k⟩).map roE).length : Int) := by omega
      have nx : ∀ (n : Nat) (c : Bool), n = (ptG (drR l ⟨a, b, k⟩) ⟨⟨a, b, k⟩, j⟩ (p + 1)).length → c = abv (drR l ⟨a, b, k⟩) ⟨a, b, k⟩ (p + 1) → inRange .i64 ((p : Int) + 1) ∧ ∃ p', (⟨[.any, .any, .any, .ptr 1 0 0 true, .any, .vsl 3 0 n, .bool c, .vsl 2 0 ((drR l ⟨a, b, k⟩).map roE).length, .int .i64 ((p : Int) + 1), .any, .any, .any, .any, .any, .any, .any, .any, .any, .any, .any, .any, .any, .any, .any, .any, .any, .any, .any, .any, .any, .any, .any, .any, .any, .any, .any, .any, .any, .any, .any, .any, .any, .any, .any, .any, .any, .any, .any, .any, .any], [some ⟨false, 36, 4, true, l.map roE⟩, some ⟨true, 36, 4, true, [.agg [.w64 a, .w64 b, .int .i64 k, .int .i64 j]]⟩, some ⟨true, 36, 4, true, (drR l ⟨a, b, k⟩).map roE⟩, some ⟨true, 36, 4, true, (ptG (drR l ⟨a, b, k⟩) ⟨⟨a, b, k⟩, j⟩ (p + 1)).map roE⟩]⟩ : St) = ptSt (List.map roE) l (drR l ⟨a, b, k⟩) ⟨⟨a, b, k⟩, j⟩ p' ∧ Nat.le p' (drR l ⟨a, b, k⟩).length ∧ (drR l ⟨a, b, k⟩).length + 1 - p' < (drR l ⟨a, b, k⟩).length + 1 - p := fun n c h1 h2 => ⟨inR (by omega) (by omega), p + 1, by subst h1; subst h2; rfl, hp, by omega⟩
      refine ⟨fun hn => ⟨B, read_rows B.1 B.2 (rr_p _), fun hc => ?_, fun hc => ?_⟩, fun hn => ?_⟩
      · have hn : abv (drR l ⟨a, b, k⟩) (⟨⟨a, b, k⟩, j⟩ : Ro).p p = false := by simpa using hn
        obtain ⟨e1, e2⟩ := ptG_here hp hn (of_decide_eq_true hc)
        refine ⟨⟨by omega, by omega, by simp, by omega⟩, app _ _ _ rfl, B, read_rows B.1 B.2 (rr_whole _), ⟨by omega, by omega, by simp, by rw [List.length_map, List.length_append]; exact Nat.le_refl _⟩, ?_, nx _ _ (by rw [e1, List.length_append, List.length_append]; rfl) e2.symm⟩
        rw [e1]
        have := app (ptG (drR l ⟨a, b, k⟩) ⟨⟨a, b, k⟩, j⟩ p ++ [⟨⟨a, b, k⟩, j⟩]) (at' (drR l ⟨a, b, k⟩) p) _ rfl
        rw [List.length_append] at this
        exact this
      · have hn' : abv (drR l ⟨a, b, k⟩) (⟨⟨a, b, k⟩, j⟩ : Ro).p p = false := by simpa using hn
        obtain ⟨e1, e2⟩ := ptG_next hp hn' (of_decide_eq_false hc)
        refine ⟨B, read_rows B.1 B.2 (rr_whole _), ⟨by omega, by omega, by simp, by omega⟩, ?_, nx _ _ (by rw [e1, List.length_append]; rfl) (hn'.trans e2.symm)⟩
        rw [e1]
        exact app _ _ _ rfl
      · have hn' : abv (drR l ⟨a, b, k⟩) (⟨⟨a, b, k⟩, j⟩ : Ro).p p = true := by simpa using hn
        have e1 := ptG_there hp hn'
        have e2 : abv (drR l ⟨a, b, k⟩) (⟨⟨a, b, k⟩, j⟩ : Ro).p (p + 1) = true := by
          obtain ⟨i, hi, hc⟩ := abv_iff.1 hn'
          exact abv_iff.2 ⟨i, by omega, hc⟩
        refine ⟨B, read_rows B.1 B.2 (rr_whole _), ⟨by omega, by omega, by simp, by omega⟩, ?_, nx _ _ (by rw [e1, List.length_append]; rfl) (hn'.trans e2.symm)⟩
        rw [e1]
        exact app _ _ _ rfl
    · have hp : p = (drR l ⟨a, b, k⟩).length := by have := of_decide_eq_false hge; omega
      have he := ptG_end (l := drR l ⟨a, b, k⟩) (r := ⟨⟨a, b, k⟩, j⟩)
      rw [← hp] at he
      have hpt : ptR l ⟨⟨a, b, k⟩, j⟩ = inR' (drR l ⟨a, b, k⟩) ⟨⟨a, b, k⟩, j⟩ := rfl
      refine ⟨fun hn => ?_, fun hn => ?_⟩
      · have hn' : abv (drR l ⟨a, b, k⟩) (⟨⟨a, b, k⟩, j⟩ : Ro).p p = false := by simpa using hn
        rw [hn', if_neg (by simp)] at he
        refine ⟨⟨by omega, by omega, by simp, by omega⟩, ?_, ?_, rfl⟩
        · rw [hpt, he]; exact app _ _ _ rfl
        · rw [hpt, he, List.length_map, List.length_append]; rfl
      · have hn' : abv (drR l ⟨a, b, k⟩) (⟨⟨a, b, k⟩, j⟩ : Ro).p p = true := by simpa using hn
        rw [hn', if_pos rfl] at he
        rw [hpt, he]
        exact ⟨by rw [List.length_map], rfl⟩
  · exact hF.elim


end Go.Proofs.Ytffcpblbdfjagaa.L1
