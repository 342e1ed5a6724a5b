/-
  Layer 6: contracts of the document's Right, Table, Drop, Find, Under.
-/
import Derived.Test.YtffcpblbdfjagaaL6T
import Derived.Test.YtffcpblbdfjagaaL2S
namespace Go.Proofs.Ytffcpblbdfjagaa.L1
open Go.Sx Go.Sx.M

theorem eqPf (p : Pf) (a b : BitVec 64) (k : Int) : (andAll [andAll [p.a == a, p.b == b], p.len == k]) = decide (p = ⟨a, b, k⟩) := by
  rw [Bool.eq_iff_iff, decide_eq_true_eq]
  cases p
  simp [andAll, and_assoc]

theorem tbR_def {w : Int} {l : List Ro} : tbR w l = true ↔ (w = 32 ∨ w = 128) ∧ l.length ≤ 256 ∧ (∀ i, i < l.length → riR w (at' l i) = true) ∧ ∀ i, i < l.length → 0 < i → cpP (at' l (i - 1)).p (at' l i).p < 0 := by
  unfold tbR; rw [decide_eq_true_eq]

theorem drR_snoc (l : List Ro) (x : Ro) (p : Pf) : drR (l ++ [x]) p = if x.p ≠ p then drR l p ++ [x] else drR l p := by
  unfold drR
  rw [List.filter_append]
  by_cases h : x.p = p
  · rw [if_neg (by simpa using h), List.filter_cons_of_neg (by simpa using h)]; simp
  · rw [if_pos h, List.filter_cons_of_pos (by simpa using h)]; simp

theorem unR_snoc (l : List Ro) (x : Ro) (p : Pf) : unR (l ++ [x]) p = if x.p ≠ p ∧ cvP p x.p = true then unR l p ++ [x] else unR l p := by
  unfold unR
  rw [List.filter_append]
  by_cases h : x.p ≠ p ∧ cvP p x.p = true
  · rw [if_pos h, List.filter_cons_of_pos (by simpa using h)]; simp
  · rw [if_neg h, List.filter_cons_of_neg (by simpa using h)]; simp

theorem fdR_first {l : List Ro} {q : Pf} {p : Nat} (hp : p < l.length) (he : (at' l p).p = q) (h : ∀ i, i < p → (at' l i).p ≠ q) : fdR l q = some (at' l p) := by
  unfold fdR
  rw [List.find?_eq_some_iff_getElem]
  have e : ∀ i (hi : i < l.length), l[i] = at' l i := fun i hi => by have := at_get hi; rw [List.getElem?_eq_getElem hi] at this; exact Option.some_inj.1 this
  refine ⟨by simpa using he, p, hp, e p hp, fun j hj => ?_⟩
  rw [e j (by omega)]
  simpa using h j hj

theorem fdR_nil {l : List Ro} {q : Pf} (h : ∀ i, i < l.length → (at' l i).p ≠ q) : fdR l q = none := by
  unfold fdR
  rw [List.find?_eq_none]
  intro x hx
  obtain ⟨j, hj, rfl⟩ := mem_at hx
  simpa using h j hj

def rtSt (l : List Ro) (w : Int) (p : Nat) : St := ⟨[.int .i64 w, .vsl 0 0 (l.map roE).length, .any, .any, .any, .int .i64 p, .any, .any, .any, .any, .any, .any, .any, .any, .any, .any, .any, .any, .any, .any, .any, .any, .any, .any, .any, .any, .any, .any, .any, .any, .any, .any, .any, .any, .any, .any, .any, .any, .any, .any, .any, .any, .any, .any, .any, .any, .any, .any, .any], [some ⟨false, 36, 4, true, l.map roE⟩]⟩
def rtM0 : Modes := ⟨[1, 1, 0, 0, 0, 2, 0, 0, 0, 0, 0, 0, 0, 0, 0, 0, 0, 0, 0, 0, 0, 0, 0, 0, 0, 0, 0, 0, 0, 0, 0, 0, 0, 0, 0, 0, 0, 0, 0, 0, 0, 0, 0, 0, 0, 0, 0, 0, 0], [], [], [], []⟩
def rtM : Modes := ⟨[1, 1, 0, 0, 0, 1, 0, 0, 0, 0, 0, 0, 0, 0, 0, 0, 0, 0, 0, 0, 0, 0, 0, 0, 0, 0, 0, 0, 0, 0, 0, 0, 0, 0, 0, 0, 0, 0, 0, 0, 0, 0, 0, 0, 0, 0, 0, 0, 0], [], [], [], []⟩
def rtM' : Modes := ⟨[1, 1, 0, 0, 2, 0, 0, 0, 0, 0, 0, 0, 0, 0, 0, 0, 0, 0, 0, 0, 0, 0, 0, 0, 0, 0, 0, 0, 0, 0, 0, 0, 0, 0, 0, 0, 0, 0, 0, 0, 0, 0, 0, 0, 0, 0, 0, 0, 0], [], [], [], []⟩
def rtI (l : List Ro) (w : Int) (p : Nat) : Prop := p ≤ l.length ∧ ∀ i, i < p → riR w (at' l i) = true ∧ (0 < i → cpP (at' l (i - 1)).p (at' l i).p < 0)
def rtH (l : List Ro) (w : Int) : List Hint := [.linv _ 0 (rtSt l w) (rtI l w) (fun p => l.length + 1 - p) rtM0 rtM rtM' (fun _ => [.fork [] [.fork [] []]]) fun p =>
  [.fork [.dy, .cell (roE (at' l p)), .fork [] [.fork [.nw, .dy, .cell (pfE (at' l (p - 1)).p), .dy, .cell (pfE (at' l p).p), .fork [] [.nw]] [.nw]]] []]]

def drSt (F : List Ro → List AV) (l : List Ro) (a b : BitVec 64) (k : Int) (p : Nat) : St :=
  ⟨[.vsl 0 0 (l.map roE).length, .any, .any, .ptr 1 0 0 true, .any, .vsl 2 0 (drR (l.take p) ⟨a, b, k⟩).length, .int .i64 p, .any, .any, .any, .any, .any, .any, .any, .any, .any, .any, .any, .any, .any, .any, .any, .any, .any, .any, .any, .any, .any], [some ⟨false, 36, 4, true, l.map roE⟩, some ⟨true, 34, 3, true, [.agg [.w64 a, .w64 b, .int .i64 k]]⟩, some ⟨true, 36, 4, true, F (drR (l.take p) ⟨a, b, k⟩)⟩]⟩
def drM0 : Modes := ⟨[1, 0, 0, 1, 0, 1, 2, 0, 0, 0, 0, 0, 0, 0, 0, 0, 0, 0, 0, 0, 0, 0, 0, 0, 0, 0, 0, 0], [], [], [], [(5, 36, 4)]⟩
def drM : Modes := ⟨[1, 0, 0, 1, 0, 1, 1, 0, 0, 0, 0, 0, 0, 0, 0, 0, 0, 0, 0, 0, 0, 0, 0, 0, 0, 0, 0, 0], [], [], [], []⟩
def drM' : Modes := ⟨[0, 0, 0, 0, 0, 1, 0, 0, 0, 0, 0, 0, 0, 0, 0, 0, 0, 0, 0, 0, 0, 0, 0, 0, 0, 0, 0, 0], [], [], [], []⟩
def drH (F : List Ro → List AV) (l : List Ro) (a b : BitVec 64) (k : Int) : List Hint := [.linv _ 0 (drSt F l a b k) (fun p => p ≤ l.length) (fun p => l.length + 1 - p) drM0 drM drM' (fun _ => []) fun p =>
  [.fork [.dy, .cell (pfE (at' l p).p), .fork [.dy, .cell (roE (at' l p)), .rows (F (drR (l.take (p + 1)) ⟨a, b, k⟩)), .nw] [.nw]] []]]

def unSt (F : List Ro → List AV) (l : List Ro) (a b : BitVec 64) (k : Int) (p : Nat) : St :=
  ⟨[.vsl 0 0 (l.map roE).length, .any, .any, .ptr 1 0 0 true, .any, .vsl 2 0 (unR (l.take p) ⟨a, b, k⟩).length, .int .i64 p, .any, .any, .any, .any, .any, .any, .any, .any, .any, .any, .any, .any, .any, .any, .any, .any, .any, .any, .any, .any, .any, .any, .any, .any, .any, .any, .any, .any, .any, .any], [some ⟨false, 36, 4, true, l.map roE⟩, some ⟨true, 34, 3, true, [.agg [.w64 a, .w64 b, .int .i64 k]]⟩, some ⟨true, 36, 4, true, F (unR (l.take p) ⟨a, b, k⟩)⟩]⟩
def unM0 : Modes := ⟨[1, 0, 0, 1, 0, 1, 2, 0, 0, 0, 0, 0, 0, 0, 0, 0, 0, 0, 0, 0, 0, 0, 0, 0, 0, 0, 0, 0, 0, 0, 0, 0, 0, 0, 0, 0, 0], [], [], [], [(5, 36, 4)]⟩
def unM : Modes := ⟨[1, 0, 0, 1, 0, 1, 1, 0, 0, 0, 0, 0, 0, 0, 0, 0, 0, 0, 0, 0, 0, 0, 0, 0, 0, 0, 0, 0, 0, 0, 0, 0, 0, 0, 0, 0, 0], [], [], [], []⟩
def unM' : Modes := ⟨[0, 0, 0, 0, 0, 1, 0, 0, 0, 0, 0, 0, 0, 0, 0, 0, 0, 0, 0, 0, 0, 0, 0, 0, 0, 0, 0, 0, 0, 0, 0, 0, 0, 0, 0, 0, 0], [], [], [], []⟩
def unH (F : List Ro → List AV) (l : List Ro) (a b : BitVec 64) (k : Int) : List Hint := [.linv _ 0 (unSt F l a b k) (fun p => p ≤ l.length) (fun p => l.length + 1 - p) unM0 unM unM' (fun _ => []) fun p =>
  [.fork [.dy, .cell (pfE (at' l p).p), .fork [.dy, .cell (pfE (at' l p).p), .fork [.dy, .cell (roE (at' l p)), .rows (F (unR (l.take (p + 1)) ⟨a, b, k⟩)), .nw] [.nw]] [.nw]] []]]

/-- A route of nothing, as it is laid. -/
def roZ : AV := .agg [.lit (.int .u64 0), .lit (.int .u64 0), .lit (.int .i64 0), .lit (.int .i64 0)]

def fdSt (l : List Ro) (a b : BitVec 64) (k : Int) (p : Nat) : St :=
  ⟨[.vsl 0 0 (l.map roE).length, .any, .any, .ptr 1 0 0 true, .ptr 2 0 0 true, .any, .int .i64 p, .any, .any, .any, .any, .any, .any, .any, .any, .any, .any, .any, .any, .any, .any, .any, .any, .any, .any], [some ⟨false, 36, 4, true, l.map roE⟩, some ⟨true, 34, 3, true, [.agg [.w64 a, .w64 b, .int .i64 k]]⟩, some ⟨true, 36, 4, true, [roZ]⟩]⟩
def fdM0 : Modes := ⟨[1, 0, 0, 1, 1, 0, 2, 0, 0, 0, 0, 0, 0, 0, 0, 0, 0, 0, 0, 0, 0, 0, 0, 0, 0], [], [], [], []⟩
def fdM : Modes := ⟨[1, 0, 0, 1, 1, 0, 1, 0, 0, 0, 0, 0, 0, 0, 0, 0, 0, 0, 0, 0, 0, 0, 0, 0, 0], [], [], [], []⟩
def fdM' : Modes := ⟨[0, 0, 0, 0, 1, 2, 0, 0, 0, 0, 0, 0, 0, 0, 0, 0, 0, 0, 0, 0, 0, 0, 0, 0, 0], [], [], [], []⟩
def fdI (l : List Ro) (a b : BitVec 64) (k : Int) (p : Nat) : Prop := p ≤ l.length ∧ ∀ i, i < p → (at' l i).p ≠ ⟨a, b, k⟩
def fdH (l : List Ro) (a b : BitVec 64) (k : Int) : List Hint := [.linv _ 0 (fdSt l a b k) (fdI l a b k) (fun p => l.length + 1 - p) fdM0 fdM fdM' (fun _ => []) fun p =>
  [.fork [.dy, .cell (pfE (at' l p).p), .fork [.dy, .cell (roE (at' l p))] [.nw]] []]]

/-- A route and whether there is one. -/
def roAns (o : Option Ro) : AV := .tuple [.agg [.w64 (roO o).p.a, .w64 (roO o).p.b, .int .i64 (roO o).p.len, .int .i64 (roO o).act], .bool o.isSome]

def rrrF : List Arg → (Res → Prop) → Prop
  | [.v (.int .i64 w), .v (.agg [.w64 a, .w64 b, .int .i64 k, .int .i64 j])], R => R (.v (.bool (riR w ⟨⟨a, b, k⟩, j⟩)))
  | _, _ => False

noncomputable def rrrCs : List (FuncId × Sx.Spec) := [(40, genSpec [none, none] rightF)]

theorem rrr_run (w : Int) (a b : BitVec 64) (k j : Int) (r : AV) : run rrrCs Try.prog 13 [.int .i64 w, .agg [.w64 a, .w64 b, .int .i64 k, .int .i64 j]] [] [.fork [.fork [] []] []] (yields (.v r)) =
    ((Go.Proofs.Ytffcpblbdfjagaa.L1.rightB w a b k = Bool.true → (Decidable.decide (j ≥ (1 : Int)) = Bool.true → Go.Sx.AV.bool (Decidable.decide (j ≤ (255 : Int))) = r) ∧ (Decidable.decide (j ≥ (1 : Int)) = Bool.false → Go.Sx.AV.bool Bool.false = r)) ∧ (Go.Proofs.Ytffcpblbdfjagaa.L1.rightB w a b k = Bool.false → Go.Sx.AV.bool Bool.false = r)) := by kernel_rfl

theorem rrrCs_ok : ∀ e ∈ rrrCs, SpecOK Try.prog e.1 e.2 := by
  intro e he
  simp only [rrrCs, List.mem_cons, List.not_mem_nil, or_false] at he
  rcases he with rfl
  · exact rright_ok

theorem rrr_ok : SpecOK Try.prog 13 (genSpec [none, none] rrrF) := by
  refine genSpec_ok (run_ok (l := rrrCs) rrrCs_ok mixed noNG) fun l R hF => ?_
  unfold rrrF at hF
  split at hF
  · rename_i w a b k j
    refine ⟨_, hF, rfl, [.fork [.fork [] []] []], ?_⟩
    show run rrrCs Try.prog _ [.int .i64 w, .agg [.w64 a, .w64 b, .int .i64 k, .int .i64 j]] [] _ _
    rw [rrr_run]
    refine ⟨fun h => ⟨fun h1 => ?_, fun h1 => ?_⟩, fun h => ?_⟩
    · rw [show riR w ⟨⟨a, b, k⟩, j⟩ = (rightB w a b k && (decide (j ≥ 1) && decide (j ≤ 255))) from rfl, h, h1]; rfl
    · rw [show riR w ⟨⟨a, b, k⟩, j⟩ = (rightB w a b k && (decide (j ≥ 1) && decide (j ≤ 255))) from rfl, h, h1]; rfl
    · rw [show riR w ⟨⟨a, b, k⟩, j⟩ = (rightB w a b k && (decide (j ≥ 1) && decide (j ≤ 255))) from rfl, h]; rfl
  · exact hF.elim


def rrtableF : List Arg → (Res → Prop) → Prop
  | [.v (.int .i64 w), .row r_l], R => r_l = (deR r_l).map roE ∧ (deR r_l).length ≤ 9223372036854775807 ∧ R (.v (.bool (tbR w (deR r_l))))
  | _, _ => False

noncomputable def rrtableCs : List (FuncId × Sx.Spec) := [(13, genSpec [none, none] rrrF),
  (43, genSpec [none, none] cmppF)]

theorem rrtable_run (w : Int) (l : List Ro) (r : AV) : run rrtableCs Try.prog 16 [.int .i64 w, .vsl 0 0 (l.map roE).length] [some ⟨false, (pRefR.getD (0, 0)).1, (pRefR.getD (0, 0)).2, true, (l.map roE)⟩] (rtH l w) (yields (.v r)) =
    ((Go.Sx.St.mk [Go.Sx.AV.int Go.IntKind.i64 w, Go.Sx.AV.vsl (0 : Nat) (0 : Nat) (List.length (List.map Go.Proofs.Ytffcpblbdfjagaa.L1.roE l)), Go.Sx.AV.any, Go.Sx.AV.any, Go.Sx.AV.any, Go.Sx.AV.int Go.IntKind.i64 (0 : Int), Go.Sx.AV.any, Go.Sx.AV.any, Go.Sx.AV.any, Go.Sx.AV.any, Go.Sx.AV.any, Go.Sx.AV.any, Go.Sx.AV.any, Go.Sx.AV.any, Go.Sx.AV.any, Go.Sx.AV.any, Go.Sx.AV.any, Go.Sx.AV.any, Go.Sx.AV.any, Go.Sx.AV.any, Go.Sx.AV.any, Go.Sx.AV.any, Go.Sx.AV.any, Go.Sx.AV.any, Go.Sx.AV.any, Go.Sx.AV.any, Go.Sx.AV.any, Go.Sx.AV.any, Go.Sx.AV.any, Go.Sx.AV.any, Go.Sx.AV.any, Go.Sx.AV.any, Go.Sx.AV.any, Go.Sx.AV.any, Go.Sx.AV.any, Go.Sx.AV.any, Go.Sx.AV.any, Go.Sx.AV.any, Go.Sx.AV.any, Go.Sx.AV.any, Go.Sx.AV.any, Go.Sx.AV.any, Go.Sx.AV.any, Go.Sx.AV.any, Go.Sx.AV.any, Go.Sx.AV.any, Go.Sx.AV.any, Go.Sx.AV.any, Go.Sx.AV.any] [Option.some (Go.Sx.Blk.mk Bool.false (nat_lit 36) (4 : Nat) Bool.true (List.map Go.Proofs.Ytffcpblbdfjagaa.L1.roE l))] = Go.Proofs.Ytffcpblbdfjagaa.L1.rtSt l w (0 : Nat) ∧ Go.Proofs.Ytffcpblbdfjagaa.L1.rtI l w (0 : Nat)) ∧ ∀ (p : Nat), Go.Proofs.Ytffcpblbdfjagaa.L1.rtI l w p → (Decidable.decide ((↑p : Int) < (↑(List.length (List.map Go.Proofs.Ytffcpblbdfjagaa.L1.roE l)) : Int)) = Bool.true → ((0 : Int) ≤ (↑p : Int) ∧ (↑p : Int) < (↑(List.length (List.map Go.Proofs.Ytffcpblbdfjagaa.L1.roE l)) : Int)) ∧ Go.Sx.Blk.read Go.Proofs.Try.prog (Go.Sx.Blk.mk Bool.false (36 : Go.TypeId) (4 : Nat) Bool.true (List.map Go.Proofs.Ytffcpblbdfjagaa.L1.roE l)) (36 : Nat) ((0 : Nat) + Int.toNat (↑p : Int)) (0 : Nat) = Option.some (Go.Sx.AV.agg [Go.Sx.AV.w64 (Go.Sx.M.Ro.p (Go.Sx.M.at' l p)).1, Go.Sx.AV.w64 (Go.Sx.M.Ro.p (Go.Sx.M.at' l p)).2, Go.Sx.AV.int Go.IntKind.i64 (Go.Sx.M.Ro.p (Go.Sx.M.at' l p)).3, Go.Sx.AV.int Go.IntKind.i64 (Go.Sx.M.at' l p).2]) ∧ ((!Go.Sx.M.riR w (Go.Sx.M.Ro.mk (Go.Sx.M.Pf.mk (Go.Sx.M.Ro.p (Go.Sx.M.at' l p)).1 (Go.Sx.M.Ro.p (Go.Sx.M.at' l p)).2 (Go.Sx.M.Ro.p (Go.Sx.M.at' l p)).3) (Go.Sx.M.at' l p).2)) = Bool.true → Go.Sx.AV.bool Bool.false = r) ∧ ((!Go.Sx.M.riR w (Go.Sx.M.Ro.mk (Go.Sx.M.Pf.mk (Go.Sx.M.Ro.p (Go.Sx.M.at' l p)).1 (Go.Sx.M.Ro.p (Go.Sx.M.at' l p)).2 (Go.Sx.M.Ro.p (Go.Sx.M.at' l p)).3) (Go.Sx.M.at' l p).2)) = Bool.false → (Decidable.decide ((↑p : Int) > (0 : Int)) = Bool.true → Go.Sx.inRange Go.IntKind.i64 ((↑p : Int) - (1 : Int)) ∧ ((0 : Int) ≤ (↑p : Int) - (1 : Int) ∧ (↑p : Int) - (1 : Int) < (↑(List.length (List.map Go.Proofs.Ytffcpblbdfjagaa.L1.roE l)) : Int)) ∧ Go.Sx.Blk.read Go.Proofs.Try.prog (Go.Sx.Blk.mk Bool.false (36 : Go.TypeId) (4 : Nat) Bool.true (List.map Go.Proofs.Ytffcpblbdfjagaa.L1.roE l)) (34 : Nat) ((0 : Nat) + Int.toNat ((↑p : Int) - (1 : Int))) ((0 : Nat) + (0 : Nat)) = Option.some (Go.Sx.AV.agg [Go.Sx.AV.w64 (Go.Sx.M.Ro.p (Go.Sx.M.at' l (p - (1 : Nat)))).1, Go.Sx.AV.w64 (Go.Sx.M.Ro.p (Go.Sx.M.at' l (p - (1 : Nat)))).2, Go.Sx.AV.int Go.IntKind.i64 (Go.Sx.M.Ro.p (Go.Sx.M.at' l (p - (1 : Nat)))).3]) ∧ ((0 : Int) ≤ (↑p : Int) ∧ (↑p : Int) < (↑(List.length (List.map Go.Proofs.Ytffcpblbdfjagaa.L1.roE l)) : Int)) ∧ Go.Sx.Blk.read Go.Proofs.Try.prog (Go.Sx.Blk.mk Bool.false (36 : Go.TypeId) (4 : Nat) Bool.true (List.map Go.Proofs.Ytffcpblbdfjagaa.L1.roE l)) (34 : Nat) ((0 : Nat) + Int.toNat (↑p : Int)) ((0 : Nat) + (0 : Nat)) = Option.some (Go.Sx.AV.agg [Go.Sx.AV.w64 (Go.Sx.M.Ro.p (Go.Sx.M.at' l p)).1, Go.Sx.AV.w64 (Go.Sx.M.Ro.p (Go.Sx.M.at' l p)).2, Go.Sx.AV.int Go.IntKind.i64 (Go.Sx.M.Ro.p (Go.Sx.M.at' l p)).3]) ∧ (Decidable.decide (Go.Proofs.Ytffcpblbdfjagaa.L1.cmpP (Go.Sx.M.Ro.p (Go.Sx.M.at' l (p - (1 : Nat)))).1 (Go.Sx.M.Ro.p (Go.Sx.M.at' l (p - (1 : Nat)))).2 (Go.Sx.M.Ro.p (Go.Sx.M.at' l (p - (1 : Nat)))).3 (Go.Sx.M.Ro.p (Go.Sx.M.at' l p)).1 (Go.Sx.M.Ro.p (Go.Sx.M.at' l p)).2 (Go.Sx.M.Ro.p (Go.Sx.M.at' l p)).3 ≥ (0 : Int)) = Bool.true → Go.Sx.AV.bool Bool.false = r) ∧ (Decidable.decide (Go.Proofs.Ytffcpblbdfjagaa.L1.cmpP (Go.Sx.M.Ro.p (Go.Sx.M.at' l (p - (1 : Nat)))).1 (Go.Sx.M.Ro.p (Go.Sx.M.at' l (p - (1 : Nat)))).2 (Go.Sx.M.Ro.p (Go.Sx.M.at' l (p - (1 : Nat)))).3 (Go.Sx.M.Ro.p (Go.Sx.M.at' l p)).1 (Go.Sx.M.Ro.p (Go.Sx.M.at' l p)).2 (Go.Sx.M.Ro.p (Go.Sx.M.at' l p)).3 ≥ (0 : Int)) = Bool.false → Go.Sx.inRange Go.IntKind.i64 ((↑p : Int) + (1 : Int)) ∧ ∃ (p' : Nat), Go.Sx.St.mk [Go.Sx.AV.int Go.IntKind.i64 w, Go.Sx.AV.vsl (0 : Nat) (0 : Nat) (List.length (List.map Go.Proofs.Ytffcpblbdfjagaa.L1.roE l)), Go.Sx.AV.any, Go.Sx.AV.any, Go.Sx.AV.any, Go.Sx.AV.int Go.IntKind.i64 ((↑p : Int) + (1 : Int)), Go.Sx.AV.any, Go.Sx.AV.any, Go.Sx.AV.any, Go.Sx.AV.any, Go.Sx.AV.any, Go.Sx.AV.any, Go.Sx.AV.any, Go.Sx.AV.any, Go.Sx.AV.any, Go.Sx.AV.any, Go.Sx.AV.any, Go.Sx.AV.any, Go.Sx.AV.any, Go.Sx.AV.any, Go.Sx.AV.any, Go.Sx.AV.any, Go.Sx.AV.any, Go.Sx.AV.any, Go.Sx.AV.any, Go.Sx.AV.any, Go.Sx.AV.any, Go.Sx.AV.any, Go.Sx.AV.any, Go.Sx.AV.any, Go.Sx.AV.any, Go.Sx.AV.any, Go.Sx.AV.any, Go.Sx.AV.any, Go.Sx.AV.any, Go.Sx.AV.any, Go.Sx.AV.any, Go.Sx.AV.any, Go.Sx.AV.any, Go.Sx.AV.any, Go.Sx.AV.any, Go.Sx.AV.any, Go.Sx.AV.any, Go.Sx.AV.any, Go.Sx.AV.any, Go.Sx.AV.any, Go.Sx.AV.any, Go.Sx.AV.any, Go.Sx.AV.any] [Option.some (Go.Sx.Blk.mk Bool.false (36 : Go.TypeId) (4 : Nat) Bool.true (List.map Go.Proofs.Ytffcpblbdfjagaa.L1.roE l))] = Go.Proofs.Ytffcpblbdfjagaa.L1.rtSt l w p' ∧ Go.Proofs.Ytffcpblbdfjagaa.L1.rtI l w p' ∧ List.length l + (1 : Nat) - p' < List.length l + (1 : Nat) - p)) ∧ (Decidable.decide ((↑p : Int) > (0 : Int)) = Bool.false → Go.Sx.inRange Go.IntKind.i64 ((↑p : Int) + (1 : Int)) ∧ ∃ (p' : Nat), Go.Sx.St.mk [Go.Sx.AV.int Go.IntKind.i64 w, Go.Sx.AV.vsl (0 : Nat) (0 : Nat) (List.length (List.map Go.Proofs.Ytffcpblbdfjagaa.L1.roE l)), Go.Sx.AV.any, Go.Sx.AV.any, Go.Sx.AV.any, Go.Sx.AV.int Go.IntKind.i64 ((↑p : Int) + (1 : Int)), Go.Sx.AV.any, Go.Sx.AV.any, Go.Sx.AV.any, Go.Sx.AV.any, Go.Sx.AV.any, Go.Sx.AV.any, Go.Sx.AV.any, Go.Sx.AV.any, Go.Sx.AV.any, Go.Sx.AV.any, Go.Sx.AV.any, Go.Sx.AV.any, Go.Sx.AV.any, Go.Sx.AV.any, Go.Sx.AV.any, Go.Sx.AV.any, Go.Sx.AV.any, Go.Sx.AV.any, Go.Sx.AV.any, Go.Sx.AV.any, Go.Sx.AV.any, Go.Sx.AV.any, Go.Sx.AV.any, Go.Sx.AV.any, Go.Sx.AV.any, Go.Sx.AV.any, Go.Sx.AV.any, Go.Sx.AV.any, Go.Sx.AV.any, Go.Sx.AV.any, Go.Sx.AV.any, Go.Sx.AV.any, Go.Sx.AV.any, Go.Sx.AV.any, Go.Sx.AV.any, Go.Sx.AV.any, Go.Sx.AV.any, Go.Sx.AV.any, Go.Sx.AV.any, Go.Sx.AV.any, Go.Sx.AV.any, Go.Sx.AV.any, Go.Sx.AV.any] [Option.some (Go.Sx.Blk.mk Bool.false (36 : Go.TypeId) (4 : Nat) Bool.true (List.map Go.Proofs.Ytffcpblbdfjagaa.L1.roE l))] = Go.Proofs.Ytffcpblbdfjagaa.L1.rtSt l w p' ∧ Go.Proofs.Ytffcpblbdfjagaa.L1.rtI l w p' ∧ List.length l + (1 : Nat) - p' < List.length l + (1 : Nat) - p))) ∧ (Decidable.decide ((↑p : Int) < (↑(List.length (List.map Go.Proofs.Ytffcpblbdfjagaa.L1.roE l)) : Int)) = Bool.false → ((w == (32 : Int)) = Bool.true → Go.Sx.AV.bool (Decidable.decide ((↑(List.length (List.map Go.Proofs.Ytffcpblbdfjagaa.L1.roE l)) : Int) ≤ (256 : Int))) = r) ∧ ((w == (32 : Int)) = Bool.false → ((w == (128 : Int)) = Bool.true → Go.Sx.AV.bool (Decidable.decide ((↑(List.length (List.map Go.Proofs.Ytffcpblbdfjagaa.L1.roE l)) : Int) ≤ (256 : Int))) = r) ∧ ((w == (128 : Int)) = Bool.false → Go.Sx.AV.bool Bool.false = r)))) := by kernel_rfl

theorem rrtableCs_ok : ∀ e ∈ rrtableCs, SpecOK Try.prog e.1 e.2 := by
  intro e he
  simp only [rrtableCs, List.mem_cons, List.not_mem_nil, or_false] at he
  rcases he with rfl | rfl
  · exact rrr_ok
  · exact rcmp_ok

theorem rrtable_ok : SpecOK Try.prog 16 (genSpec [none, pRefR] rrtableF) := by
  refine genSpec_ok (run_ok (l := rrtableCs) rrtableCs_ok mixed noNG) fun l R hF => ?_
  unfold rrtableF at hF
  split at hF
  · rename_i w r_l
    obtain ⟨hr_l, hl, hF⟩ := hF
    generalize deR r_l = l at hr_l hl hF
    subst hr_l
    refine ⟨_, hF, rfl, (rtH l w), ?_⟩
    show run rrtableCs Try.prog _ [.int .i64 w, .vsl 0 0 (l.map roE).length] [some ⟨false, (pRefR.getD (0, 0)).1, (pRefR.getD (0, 0)).2, true, (l.map roE)⟩] _ _
    rw [rrtable_run]
    refine ⟨⟨rfl, Nat.zero_le _, fun i hi => by omega⟩, ?_⟩
    rintro p ⟨h1, h2⟩
    refine ⟨fun hlt => ?_, fun hge => ?_⟩
    · have hp : p < l.length := by simp only [decide_eq_true_eq, List.length_map] at hlt; omega
      have B : 0 ≤ (p : Int) ∧ (p : Int) < ((l.map roE).length : Int) := by rw [List.length_map]; omega
      have nx : riR w (at' l p) = true → (0 < p → cpP (at' l (p - 1)).p (at' l p).p < 0) → inRange .i64 ((p : Int) + 1) ∧ ∃ p', rtSt l w (p + 1) = rtSt l w p' ∧ rtI l w p' ∧ l.length + 1 - p' < l.length + 1 - p := fun g1 g2 => ⟨inR (by omega) (by omega), p + 1, rfl, ⟨by omega, up h2 ⟨g1, g2⟩⟩, by omega⟩
      refine ⟨B, read_rows B.1 B.2 (rr_whole _), fun hr => ?_, fun hr => ⟨fun h0 => ?_, fun h0 => nx (by simpa using hr) fun h => ?_⟩⟩
      · have hr : riR w (at' l p) = false := by simpa using hr
        rw [notT tbR_def fun h => by have := h.2.2.1 p hp; rw [hr] at this; cases this]
      · have h0 : 0 < p := by simp only [decide_eq_true_eq] at h0; omega
        have e1 : ((p : Int) - 1).toNat = p - 1 := by omega
        refine ⟨inR (by omega) (by omega), ⟨by omega, by omega⟩, read_rows (by omega) (by omega) (by rw [e1]; exact rr_p _), B, read_rows B.1 B.2 (rr_p _), fun hc => ?_, fun hc => nx (by simpa using hr) fun _ => ?_⟩
        · have hc : cpP (at' l (p - 1)).p (at' l p).p ≥ 0 := of_decide_eq_true hc
          rw [notT tbR_def fun h => by have := h.2.2.2 p hp h0; omega]
        · have hc : ¬ cpP (at' l (p - 1)).p (at' l p).p ≥ 0 := of_decide_eq_false hc
          omega
      · simp only [decide_eq_false_iff_not] at h0; omega
    · have hp : p = l.length := by simp only [decide_eq_false_iff_not, List.length_map] at hge; omega
      subst hp
      have tb : (w = 32 ∨ w = 128) → tbR w l = decide (((l.map roE).length : Int) ≤ 256) := fun hw => by
        rw [Bool.eq_iff_iff, tbR_def, decide_eq_true_eq, List.length_map]
        exact ⟨fun h => by have := h.2.1; omega, fun h => ⟨hw, by omega, fun i hi => (h2 i hi).1, fun i hi => (h2 i hi).2⟩⟩
      refine ⟨fun hw => ?_, fun hw => ⟨fun hw2 => ?_, fun hw2 => ?_⟩⟩
      · rw [tb (.inl (by simpa using hw))]
      · rw [tb (.inr (by simpa using hw2))]
      · have a1 : w ≠ 32 := by simpa using hw
        have a2 : w ≠ 128 := by simpa using hw2
        rw [notT tbR_def fun h => by rcases h.1 with h | h <;> contradiction]
  · exact hF.elim


def rrdropF : List Arg → (Res → Prop) → Prop
  | [.row r_l, .v (.agg [.w64 a, .w64 b, .int .i64 k])], R => r_l = (deR r_l).map roE ∧ (deR r_l).length ≤ 1000000 ∧ R (.vrow 36 4 ((drR (deR r_l) ⟨a, b, k⟩).map roE))
  | _, _ => False

theorem rrdrop_run (l : List Ro) (a b : BitVec 64) (k : Int) (F : List Ro → List AV) (es : List AV) : run [] Try.prog 23 [.vsl 0 0 (l.map roE).length, .agg [.w64 a, .w64 b, .int .i64 k]] [some ⟨false, (pRefR.getD (0, 0)).1, (pRefR.getD (0, 0)).2, true, (l.map roE)⟩] (drH F l a b k) (yields (.vrow 36 4 es)) =
    ((Go.Sx.St.mk [Go.Sx.AV.vsl (0 : Nat) (0 : Nat) (List.length (List.map Go.Proofs.Ytffcpblbdfjagaa.L1.roE l)), Go.Sx.AV.any, Go.Sx.AV.any, Go.Sx.AV.ptr ((0 : Nat) + (1 : Nat)) (0 : Nat) (0 : Nat) Bool.true, Go.Sx.AV.any, Go.Sx.AV.vsl (List.length [Option.some (Go.Sx.Blk.mk Bool.false (nat_lit 36) (4 : Nat) Bool.true (List.map Go.Proofs.Ytffcpblbdfjagaa.L1.roE l)), Option.some (Go.Sx.Blk.mk Bool.true (34 : Nat) (3 : Nat) Bool.true [Go.Sx.AV.agg [Go.Sx.AV.w64 a, Go.Sx.AV.w64 b, Go.Sx.AV.int Go.IntKind.i64 k]])]) (0 : Nat) (0 : Nat), Go.Sx.AV.int Go.IntKind.i64 (0 : Int), Go.Sx.AV.any, Go.Sx.AV.any, Go.Sx.AV.any, Go.Sx.AV.any, Go.Sx.AV.any, Go.Sx.AV.any, Go.Sx.AV.any, Go.Sx.AV.any, Go.Sx.AV.any, Go.Sx.AV.any, Go.Sx.AV.any, Go.Sx.AV.any, Go.Sx.AV.any, Go.Sx.AV.any, Go.Sx.AV.any, Go.Sx.AV.any, Go.Sx.AV.any, Go.Sx.AV.any, Go.Sx.AV.any, Go.Sx.AV.any, Go.Sx.AV.any] ([Option.some (Go.Sx.Blk.mk Bool.false (nat_lit 36) (4 : Nat) Bool.true (List.map Go.Proofs.Ytffcpblbdfjagaa.L1.roE l)), Option.some (Go.Sx.Blk.mk Bool.true (34 : Nat) (3 : Nat) Bool.true [Go.Sx.AV.agg [Go.Sx.AV.w64 a, Go.Sx.AV.w64 b, Go.Sx.AV.int Go.IntKind.i64 k]])] ++ [Option.some (Go.Sx.Blk.mk Bool.true (36 : Go.TypeId) (4 : Nat) Bool.true [])]) = Go.Proofs.Ytffcpblbdfjagaa.L1.drSt F l a b k (0 : Nat) ∧ Nat.le (0 : Nat) (List.length l)) ∧ ∀ (p : Nat), Nat.le p (List.length l) → (Decidable.decide ((↑p : Int) < (↑(List.length (List.map Go.Proofs.Ytffcpblbdfjagaa.L1.roE l)) : Int)) = Bool.true → ((0 : Int) ≤ (↑p : Int) ∧ (↑p : Int) < (↑(List.length (List.map Go.Proofs.Ytffcpblbdfjagaa.L1.roE l)) : Int)) ∧ Go.Sx.Blk.read Go.Proofs.Try.prog (Go.Sx.Blk.mk Bool.false (36 : Go.TypeId) (4 : Nat) Bool.true (List.map Go.Proofs.Ytffcpblbdfjagaa.L1.roE l)) (34 : Nat) ((0 : Nat) + Int.toNat (↑p : Int)) ((0 : Nat) + (0 : Nat)) = Option.some (Go.Sx.AV.agg [Go.Sx.AV.w64 (Go.Sx.M.Ro.p (Go.Sx.M.at' l p)).1, Go.Sx.AV.w64 (Go.Sx.M.Ro.p (Go.Sx.M.at' l p)).2, Go.Sx.AV.int Go.IntKind.i64 (Go.Sx.M.Ro.p (Go.Sx.M.at' l p)).3]) ∧ ((!((Go.Sx.M.Ro.p (Go.Sx.M.at' l p)).1 == a && (Go.Sx.M.Ro.p (Go.Sx.M.at' l p)).2 == b && (Go.Sx.M.Ro.p (Go.Sx.M.at' l p)).3 == k)) = Bool.true → ((0 : Int) ≤ (↑p : Int) ∧ (↑p : Int) < (↑(List.length (List.map Go.Proofs.Ytffcpblbdfjagaa.L1.roE l)) : Int)) ∧ Go.Sx.Blk.read Go.Proofs.Try.prog (Go.Sx.Blk.mk Bool.false (36 : Go.TypeId) (4 : Nat) Bool.true (List.map Go.Proofs.Ytffcpblbdfjagaa.L1.roE l)) (36 : Nat) ((0 : Nat) + Int.toNat (↑p : Int)) (0 : Nat) = Option.some (Go.Sx.AV.agg [Go.Sx.AV.w64 (Go.Sx.M.Ro.p (Go.Sx.M.at' l p)).1, Go.Sx.AV.w64 (Go.Sx.M.Ro.p (Go.Sx.M.at' l p)).2, Go.Sx.AV.int Go.IntKind.i64 (Go.Sx.M.Ro.p (Go.Sx.M.at' l p)).3, Go.Sx.AV.int Go.IntKind.i64 (Go.Sx.M.at' l p).2]) ∧ ((List.length (Go.Sx.M.drR (List.take p l) (Go.Sx.M.Pf.mk a b k)) + (1 : Nat)) * (32 : Nat) ≤ (140737488355328 : Nat) ∧ List.length (Go.Sx.M.drR (List.take p l) (Go.Sx.M.Pf.mk a b k)) + (1 : Nat) ≤ (9223372036854775807 : Nat) ∧ (0 : Nat) + (1 : Nat) ≤ List.length [Go.Sx.AV.agg [Go.Sx.AV.w64 (Go.Sx.M.Ro.p (Go.Sx.M.at' l p)).1, Go.Sx.AV.w64 (Go.Sx.M.Ro.p (Go.Sx.M.at' l p)).2, Go.Sx.AV.int Go.IntKind.i64 (Go.Sx.M.Ro.p (Go.Sx.M.at' l p)).3, Go.Sx.AV.int Go.IntKind.i64 (Go.Sx.M.at' l p).2]] ∧ List.length (Go.Sx.M.drR (List.take p l) (Go.Sx.M.Pf.mk a b k)) ≤ List.length (F (Go.Sx.M.drR (List.take p l) (Go.Sx.M.Pf.mk a b k)))) ∧ List.take (List.length (Go.Sx.M.drR (List.take p l) (Go.Sx.M.Pf.mk a b k))) (F (Go.Sx.M.drR (List.take p l) (Go.Sx.M.Pf.mk a b k))) ++ [Go.Sx.AV.agg [Go.Sx.AV.w64 (Go.Sx.M.Ro.p (Go.Sx.M.at' l p)).1, Go.Sx.AV.w64 (Go.Sx.M.Ro.p (Go.Sx.M.at' l p)).2, Go.Sx.AV.int Go.IntKind.i64 (Go.Sx.M.Ro.p (Go.Sx.M.at' l p)).3, Go.Sx.AV.int Go.IntKind.i64 (Go.Sx.M.at' l p).2]] = F (Go.Sx.M.drR (List.take (p + (1 : Nat)) l) (Go.Sx.M.Pf.mk a b k)) ∧ Go.Sx.inRange Go.IntKind.i64 ((↑p : Int) + (1 : Int)) ∧ ∃ (p' : Nat), Go.Sx.St.mk [Go.Sx.AV.vsl (0 : Nat) (0 : Nat) (List.length (List.map Go.Proofs.Ytffcpblbdfjagaa.L1.roE l)), Go.Sx.AV.any, Go.Sx.AV.any, Go.Sx.AV.ptr ((0 : Nat) + (1 : Nat)) (0 : Nat) (0 : Nat) Bool.true, Go.Sx.AV.any, Go.Sx.AV.vsl ((0 : Nat) + (1 : Nat) + (1 : Nat)) (0 : Nat) (List.length (Go.Sx.M.drR (List.take p l) (Go.Sx.M.Pf.mk a b k)) + (1 : Nat)), Go.Sx.AV.int Go.IntKind.i64 ((↑p : Int) + (1 : Int)), Go.Sx.AV.any, Go.Sx.AV.any, Go.Sx.AV.any, Go.Sx.AV.any, Go.Sx.AV.any, Go.Sx.AV.any, Go.Sx.AV.any, Go.Sx.AV.any, Go.Sx.AV.any, Go.Sx.AV.any, Go.Sx.AV.any, Go.Sx.AV.any, Go.Sx.AV.any, Go.Sx.AV.any, Go.Sx.AV.any, Go.Sx.AV.any, Go.Sx.AV.any, Go.Sx.AV.any, Go.Sx.AV.any, Go.Sx.AV.any, Go.Sx.AV.any] [Option.some (Go.Sx.Blk.mk Bool.false (36 : Go.TypeId) (4 : Nat) Bool.true (List.map Go.Proofs.Ytffcpblbdfjagaa.L1.roE l)), Option.some (Go.Sx.Blk.mk Bool.true (34 : Go.TypeId) (3 : Nat) Bool.true [Go.Sx.AV.agg [Go.Sx.AV.w64 a, Go.Sx.AV.w64 b, Go.Sx.AV.int Go.IntKind.i64 k]]), Option.some (Go.Sx.Blk.mk Bool.true (36 : Nat) (4 : Nat) Bool.true (F (Go.Sx.M.drR (List.take (p + (1 : Nat)) l) (Go.Sx.M.Pf.mk a b k))))] = Go.Proofs.Ytffcpblbdfjagaa.L1.drSt F l a b k p' ∧ Nat.le p' (List.length l) ∧ List.length l + (1 : Nat) - p' < List.length l + (1 : Nat) - p) ∧ ((!((Go.Sx.M.Ro.p (Go.Sx.M.at' l p)).1 == a && (Go.Sx.M.Ro.p (Go.Sx.M.at' l p)).2 == b && (Go.Sx.M.Ro.p (Go.Sx.M.at' l p)).3 == k)) = Bool.false → Go.Sx.inRange Go.IntKind.i64 ((↑p : Int) + (1 : Int)) ∧ ∃ (p' : Nat), Go.Sx.St.mk [Go.Sx.AV.vsl (0 : Nat) (0 : Nat) (List.length (List.map Go.Proofs.Ytffcpblbdfjagaa.L1.roE l)), Go.Sx.AV.any, Go.Sx.AV.any, Go.Sx.AV.ptr ((0 : Nat) + (1 : Nat)) (0 : Nat) (0 : Nat) Bool.true, Go.Sx.AV.any, Go.Sx.AV.vsl ((0 : Nat) + (1 : Nat) + (1 : Nat)) (0 : Nat) (List.length (Go.Sx.M.drR (List.take p l) (Go.Sx.M.Pf.mk a b k))), Go.Sx.AV.int Go.IntKind.i64 ((↑p : Int) + (1 : Int)), Go.Sx.AV.any, Go.Sx.AV.any, Go.Sx.AV.any, Go.Sx.AV.any, Go.Sx.AV.any, Go.Sx.AV.any, Go.Sx.AV.any, Go.Sx.AV.any, Go.Sx.AV.any, Go.Sx.AV.any, Go.Sx.AV.any, Go.Sx.AV.any, Go.Sx.AV.any, Go.Sx.AV.any, Go.Sx.AV.any, Go.Sx.AV.any, Go.Sx.AV.any, Go.Sx.AV.any, Go.Sx.AV.any, Go.Sx.AV.any, Go.Sx.AV.any] [Option.some (Go.Sx.Blk.mk Bool.false (36 : Go.TypeId) (4 : Nat) Bool.true (List.map Go.Proofs.Ytffcpblbdfjagaa.L1.roE l)), Option.some (Go.Sx.Blk.mk Bool.true (34 : Go.TypeId) (3 : Nat) Bool.true [Go.Sx.AV.agg [Go.Sx.AV.w64 a, Go.Sx.AV.w64 b, Go.Sx.AV.int Go.IntKind.i64 k]]), Option.some (Go.Sx.Blk.mk Bool.true (36 : Go.TypeId) (4 : Nat) Bool.true (F (Go.Sx.M.drR (List.take p l) (Go.Sx.M.Pf.mk a b k))))] = Go.Proofs.Ytffcpblbdfjagaa.L1.drSt F l a b k p' ∧ Nat.le p' (List.length l) ∧ List.length l + (1 : Nat) - p' < List.length l + (1 : Nat) - p)) ∧ (Decidable.decide ((↑p : Int) < (↑(List.length (List.map Go.Proofs.Ytffcpblbdfjagaa.L1.roE l)) : Int)) = Bool.false → List.length (Go.Sx.M.drR (List.take p l) (Go.Sx.M.Pf.mk a b k)) = List.length es ∧ Option.some (Go.Sx.Blk.mk Bool.true (36 : Go.TypeId) (4 : Nat) Bool.true (F (Go.Sx.M.drR (List.take p l) (Go.Sx.M.Pf.mk a b k)))) = Option.some (Go.Sx.Blk.mk Bool.true (36 : Go.TypeId) (4 : Nat) Bool.true es))) := by kernel_rfl

theorem rrdrop_ok : SpecOK Try.prog 23 (genSpec [pRefR, none] rrdropF) := by
  refine genSpec_ok none_ok fun l R hF => ?_
  unfold rrdropF at hF
  split at hF
  · rename_i r_l a b k
    obtain ⟨hr_l, hl, hF⟩ := hF
    generalize deR r_l = l at hr_l hl hF
    subst hr_l
    refine ⟨_, hF, trivial, (drH (List.map roE) l a b k), ?_⟩
    show run [] Try.prog _ [.vsl 0 0 (l.map roE).length, .agg [.w64 a, .w64 b, .int .i64 k]] [some ⟨false, (pRefR.getD (0, 0)).1, (pRefR.getD (0, 0)).2, true, (l.map roE)⟩] _ _
    rw [rrdrop_run]
    refine ⟨⟨rfl, Nat.zero_le _⟩, ?_⟩
    intro p hp0
    have hp0 : p ≤ l.length := hp0
    have hf : (drR (l.take p) ⟨a, b, k⟩).length ≤ 1000000 := Nat.le_trans (List.length_filter_le _ _) (by rw [List.length_take]; omega)
    refine ⟨fun hlt => ?_, fun hge => ?_⟩
    · have hp : p < l.length := by simp only [decide_eq_true_eq, List.length_map] at hlt; omega
      have B : 0 ≤ (p : Int) ∧ (p : Int) < ((l.map roE).length : Int) := by rw [List.length_map]; omega
      have hd : ((at' l p).p.a == a && (at' l p).p.b == b && (at' l p).p.len == k) = decide ((at' l p).p = ⟨a, b, k⟩) := eqPf _ a b k
      refine ⟨B, read_rows B.1 B.2 (rr_p _), fun hn => ?_, fun hn => ?_⟩
      · rw [hd] at hn
        have e : drR (l.take (p + 1)) ⟨a, b, k⟩ = drR (l.take p) ⟨a, b, k⟩ ++ [at' l p] := by rw [take_one hp, drR_snoc, if_pos (by simpa using hn)]
        refine ⟨B, read_rows B.1 B.2 (rr_whole _), ⟨by omega, by omega, by simp, by rw [List.length_map]; exact Nat.le_refl _⟩, ?_, inR (by omega) (by omega), p + 1, ?_, hp, by omega⟩
        · rw [e, List.map_append, List.take_of_length_le (by rw [List.length_map]; exact Nat.le_refl _)]; rfl
        · unfold drSt; rw [e, List.length_append]; rfl
      · rw [hd] at hn
        have e : drR (l.take (p + 1)) ⟨a, b, k⟩ = drR (l.take p) ⟨a, b, k⟩ := by rw [take_one hp, drR_snoc, if_neg (by simpa using hn)]
        exact ⟨inR (by omega) (by omega), p + 1, by unfold drSt; rw [e]; rfl, hp, by omega⟩
    · have hp : p = l.length := by simp only [decide_eq_false_iff_not, List.length_map] at hge; omega
      subst hp
      rw [List.take_length]
      exact ⟨by rw [List.length_map], rfl⟩
  · exact hF.elim


def rrunderF : List Arg → (Res → Prop) → Prop
  | [.row r_l, .v (.agg [.w64 a, .w64 b, .int .i64 k])], R => r_l = (deR r_l).map roE ∧ (deR r_l).length ≤ 1000000 ∧ R (.vrow 36 4 ((unR (deR r_l) ⟨a, b, k⟩).map roE))
  | _, _ => False

noncomputable def rrunderCs : List (FuncId × Sx.Spec) := [(52, genSpec [none, none] coversF)]

theorem rrunder_run (l : List Ro) (a b : BitVec 64) (k : Int) (F : List Ro → List AV) (es : List AV) : run rrunderCs Try.prog 35 [.vsl 0 0 (l.map roE).length, .agg [.w64 a, .w64 b, .int .i64 k]] [some ⟨false, (pRefR.getD (0, 0)).1, (pRefR.getD (0, 0)).2, true, (l.map roE)⟩] (unH F l a b k) (yields (.vrow 36 4 es)) =
    ((Go.Sx.St.mk [Go.Sx.AV.vsl (0 : Nat) (0 : Nat) (List.length (List.map Go.Proofs.Ytffcpblbdfjagaa.L1.roE l)), Go.Sx.AV.any, Go.Sx.AV.any, Go.Sx.AV.ptr ((0 : Nat) + (1 : Nat)) (0 : Nat) (0 : Nat) Bool.true, Go.Sx.AV.any, Go.Sx.AV.vsl (List.length [Option.some (Go.Sx.Blk.mk Bool.false (nat_lit 36) (4 : Nat) Bool.true (List.map Go.Proofs.Ytffcpblbdfjagaa.L1.roE l)), Option.some (Go.Sx.Blk.mk Bool.true (34 : Nat) (3 : Nat) Bool.true [Go.Sx.AV.agg [Go.Sx.AV.w64 a, Go.Sx.AV.w64 b, Go.Sx.AV.int Go.IntKind.i64 k]])]) (0 : Nat) (0 : Nat), Go.Sx.AV.int Go.IntKind.i64 (0 : Int), Go.Sx.AV.any, Go.Sx.AV.any, Go.Sx.AV.any, Go.Sx.AV.any, Go.Sx.AV.any, Go.Sx.AV.any, Go.Sx.AV.any, Go.Sx.AV.any, Go.Sx.AV.any, Go.Sx.AV.any, Go.Sx.AV.any, Go.Sx.AV.any, Go.Sx.AV.any, Go.Sx.AV.any, Go.Sx.AV.any, Go.Sx.AV.any, Go.Sx.AV.any, Go.Sx.AV.any, Go.Sx.AV.any, Go.Sx.AV.any, Go.Sx.AV.any, Go.Sx.AV.any, Go.Sx.AV.any, Go.Sx.AV.any, Go.Sx.AV.any, Go.Sx.AV.any, Go.Sx.AV.any, Go.Sx.AV.any, Go.Sx.AV.any, Go.Sx.AV.any] ([Option.some (Go.Sx.Blk.mk Bool.false (nat_lit 36) (4 : Nat) Bool.true (List.map Go.Proofs.Ytffcpblbdfjagaa.L1.roE l)), Option.some (Go.Sx.Blk.mk Bool.true (34 : Nat) (3 : Nat) Bool.true [Go.Sx.AV.agg [Go.Sx.AV.w64 a, Go.Sx.AV.w64 b, Go.Sx.AV.int Go.IntKind.i64 k]])] ++ [Option.some (Go.Sx.Blk.mk Bool.true (36 : Go.TypeId) (4 : Nat) Bool.true [])]) = Go.Proofs.Ytffcpblbdfjagaa.L1.unSt F l a b k (0 : Nat) ∧ Nat.le (0 : Nat) (List.length l)) ∧ ∀ (p : Nat), Nat.le p (List.length l) → (Decidable.decide ((↑p : Int) < (↑(List.length (List.map Go.Proofs.Ytffcpblbdfjagaa.L1.roE l)) : Int)) = Bool.true → ((0 : Int) ≤ (↑p : Int) ∧ (↑p : Int) < (↑(List.length (List.map Go.Proofs.Ytffcpblbdfjagaa.L1.roE l)) : Int)) ∧ Go.Sx.Blk.read Go.Proofs.Try.prog (Go.Sx.Blk.mk Bool.false (36 : Go.TypeId) (4 : Nat) Bool.true (List.map Go.Proofs.Ytffcpblbdfjagaa.L1.roE l)) (34 : Nat) ((0 : Nat) + Int.toNat (↑p : Int)) ((0 : Nat) + (0 : Nat)) = Option.some (Go.Sx.AV.agg [Go.Sx.AV.w64 (Go.Sx.M.Ro.p (Go.Sx.M.at' l p)).1, Go.Sx.AV.w64 (Go.Sx.M.Ro.p (Go.Sx.M.at' l p)).2, Go.Sx.AV.int Go.IntKind.i64 (Go.Sx.M.Ro.p (Go.Sx.M.at' l p)).3]) ∧ ((!((Go.Sx.M.Ro.p (Go.Sx.M.at' l p)).1 == a && (Go.Sx.M.Ro.p (Go.Sx.M.at' l p)).2 == b && (Go.Sx.M.Ro.p (Go.Sx.M.at' l p)).3 == k)) = Bool.true → ((0 : Int) ≤ (↑p : Int) ∧ (↑p : Int) < (↑(List.length (List.map Go.Proofs.Ytffcpblbdfjagaa.L1.roE l)) : Int)) ∧ Go.Sx.Blk.read Go.Proofs.Try.prog (Go.Sx.Blk.mk Bool.false (36 : Go.TypeId) (4 : Nat) Bool.true (List.map Go.Proofs.Ytffcpblbdfjagaa.L1.roE l)) (34 : Nat) ((0 : Nat) + Int.toNat (↑p : Int)) ((0 : Nat) + (0 : Nat)) = Option.some (Go.Sx.AV.agg [Go.Sx.AV.w64 (Go.Sx.M.Ro.p (Go.Sx.M.at' l p)).1, Go.Sx.AV.w64 (Go.Sx.M.Ro.p (Go.Sx.M.at' l p)).2, Go.Sx.AV.int Go.IntKind.i64 (Go.Sx.M.Ro.p (Go.Sx.M.at' l p)).3]) ∧ ((Decidable.decide (k ≤ (Go.Sx.M.Ro.p (Go.Sx.M.at' l p)).3) && Go.Proofs.Ytffcpblbdfjagaa.L1.matchB a b k (Go.Sx.M.Ro.p (Go.Sx.M.at' l p)).1 (Go.Sx.M.Ro.p (Go.Sx.M.at' l p)).2) = Bool.true → ((0 : Int) ≤ (↑p : Int) ∧ (↑p : Int) < (↑(List.length (List.map Go.Proofs.Ytffcpblbdfjagaa.L1.roE l)) : Int)) ∧ Go.Sx.Blk.read Go.Proofs.Try.prog (Go.Sx.Blk.mk Bool.false (36 : Go.TypeId) (4 : Nat) Bool.true (List.map Go.Proofs.Ytffcpblbdfjagaa.L1.roE l)) (36 : Nat) ((0 : Nat) + Int.toNat (↑p : Int)) (0 : Nat) = Option.some (Go.Sx.AV.agg [Go.Sx.AV.w64 (Go.Sx.M.Ro.p (Go.Sx.M.at' l p)).1, Go.Sx.AV.w64 (Go.Sx.M.Ro.p (Go.Sx.M.at' l p)).2, Go.Sx.AV.int Go.IntKind.i64 (Go.Sx.M.Ro.p (Go.Sx.M.at' l p)).3, Go.Sx.AV.int Go.IntKind.i64 (Go.Sx.M.at' l p).2]) ∧ ((List.length (Go.Sx.M.unR (List.take p l) (Go.Sx.M.Pf.mk a b k)) + (1 : Nat)) * (32 : Nat) ≤ (140737488355328 : Nat) ∧ List.length (Go.Sx.M.unR (List.take p l) (Go.Sx.M.Pf.mk a b k)) + (1 : Nat) ≤ (9223372036854775807 : Nat) ∧ (0 : Nat) + (1 : Nat) ≤ List.length [Go.Sx.AV.agg [Go.Sx.AV.w64 (Go.Sx.M.Ro.p (Go.Sx.M.at' l p)).1, Go.Sx.AV.w64 (Go.Sx.M.Ro.p (Go.Sx.M.at' l p)).2, Go.Sx.AV.int Go.IntKind.i64 (Go.Sx.M.Ro.p (Go.Sx.M.at' l p)).3, Go.Sx.AV.int Go.IntKind.i64 (Go.Sx.M.at' l p).2]] ∧ List.length (Go.Sx.M.unR (List.take p l) (Go.Sx.M.Pf.mk a b k)) ≤ List.length (F (Go.Sx.M.unR (List.take p l) (Go.Sx.M.Pf.mk a b k)))) ∧ List.take (List.length (Go.Sx.M.unR (List.take p l) (Go.Sx.M.Pf.mk a b k))) (F (Go.Sx.M.unR (List.take p l) (Go.Sx.M.Pf.mk a b k))) ++ [Go.Sx.AV.agg [Go.Sx.AV.w64 (Go.Sx.M.Ro.p (Go.Sx.M.at' l p)).1, Go.Sx.AV.w64 (Go.Sx.M.Ro.p (Go.Sx.M.at' l p)).2, Go.Sx.AV.int Go.IntKind.i64 (Go.Sx.M.Ro.p (Go.Sx.M.at' l p)).3, Go.Sx.AV.int Go.IntKind.i64 (Go.Sx.M.at' l p).2]] = F (Go.Sx.M.unR (List.take (p + (1 : Nat)) l) (Go.Sx.M.Pf.mk a b k)) ∧ Go.Sx.inRange Go.IntKind.i64 ((↑p : Int) + (1 : Int)) ∧ ∃ (p' : Nat), Go.Sx.St.mk [Go.Sx.AV.vsl (0 : Nat) (0 : Nat) (List.length (List.map Go.Proofs.Ytffcpblbdfjagaa.L1.roE l)), Go.Sx.AV.any, Go.Sx.AV.any, Go.Sx.AV.ptr ((0 : Nat) + (1 : Nat)) (0 : Nat) (0 : Nat) Bool.true, Go.Sx.AV.any, Go.Sx.AV.vsl ((0 : Nat) + (1 : Nat) + (1 : Nat)) (0 : Nat) (List.length (Go.Sx.M.unR (List.take p l) (Go.Sx.M.Pf.mk a b k)) + (1 : Nat)), Go.Sx.AV.int Go.IntKind.i64 ((↑p : Int) + (1 : Int)), Go.Sx.AV.any, Go.Sx.AV.any, Go.Sx.AV.any, Go.Sx.AV.any, Go.Sx.AV.any, Go.Sx.AV.any, Go.Sx.AV.any, Go.Sx.AV.any, Go.Sx.AV.any, Go.Sx.AV.any, Go.Sx.AV.any, Go.Sx.AV.any, Go.Sx.AV.any, Go.Sx.AV.any, Go.Sx.AV.any, Go.Sx.AV.any, Go.Sx.AV.any, Go.Sx.AV.any, Go.Sx.AV.any, Go.Sx.AV.any, Go.Sx.AV.any, Go.Sx.AV.any, Go.Sx.AV.any, Go.Sx.AV.any, Go.Sx.AV.any, Go.Sx.AV.any, Go.Sx.AV.any, Go.Sx.AV.any, Go.Sx.AV.any, Go.Sx.AV.any] [Option.some (Go.Sx.Blk.mk Bool.false (36 : Go.TypeId) (4 : Nat) Bool.true (List.map Go.Proofs.Ytffcpblbdfjagaa.L1.roE l)), Option.some (Go.Sx.Blk.mk Bool.true (34 : Go.TypeId) (3 : Nat) Bool.true [Go.Sx.AV.agg [Go.Sx.AV.w64 a, Go.Sx.AV.w64 b, Go.Sx.AV.int Go.IntKind.i64 k]]), Option.some (Go.Sx.Blk.mk Bool.true (36 : Nat) (4 : Nat) Bool.true (F (Go.Sx.M.unR (List.take (p + (1 : Nat)) l) (Go.Sx.M.Pf.mk a b k))))] = Go.Proofs.Ytffcpblbdfjagaa.L1.unSt F l a b k p' ∧ Nat.le p' (List.length l) ∧ List.length l + (1 : Nat) - p' < List.length l + (1 : Nat) - p) ∧ ((Decidable.decide (k ≤ (Go.Sx.M.Ro.p (Go.Sx.M.at' l p)).3) && Go.Proofs.Ytffcpblbdfjagaa.L1.matchB a b k (Go.Sx.M.Ro.p (Go.Sx.M.at' l p)).1 (Go.Sx.M.Ro.p (Go.Sx.M.at' l p)).2) = Bool.false → Go.Sx.inRange Go.IntKind.i64 ((↑p : Int) + (1 : Int)) ∧ ∃ (p' : Nat), Go.Sx.St.mk [Go.Sx.AV.vsl (0 : Nat) (0 : Nat) (List.length (List.map Go.Proofs.Ytffcpblbdfjagaa.L1.roE l)), Go.Sx.AV.any, Go.Sx.AV.any, Go.Sx.AV.ptr ((0 : Nat) + (1 : Nat)) (0 : Nat) (0 : Nat) Bool.true, Go.Sx.AV.any, Go.Sx.AV.vsl ((0 : Nat) + (1 : Nat) + (1 : Nat)) (0 : Nat) (List.length (Go.Sx.M.unR (List.take p l) (Go.Sx.M.Pf.mk a b k))), Go.Sx.AV.int Go.IntKind.i64 ((↑p : Int) + (1 : Int)), Go.Sx.AV.any, Go.Sx.AV.any, Go.Sx.AV.any, Go.Sx.AV.any, Go.Sx.AV.any, Go.Sx.AV.any, Go.Sx.AV.any, Go.Sx.AV.any, Go.Sx.AV.any, Go.Sx.AV.any, Go.Sx.AV.any, Go.Sx.AV.any, Go.Sx.AV.any, Go.Sx.AV.any, Go.Sx.AV.any, Go.Sx.AV.any, Go.Sx.AV.any, Go.Sx.AV.any, Go.Sx.AV.any, Go.Sx.AV.any, Go.Sx.AV.any, Go.Sx.AV.any, Go.Sx.AV.any, Go.Sx.AV.any, Go.Sx.AV.any, Go.Sx.AV.any, Go.Sx.AV.any, Go.Sx.AV.any, Go.Sx.AV.any, Go.Sx.AV.any] [Option.some (Go.Sx.Blk.mk Bool.false (36 : Go.TypeId) (4 : Nat) Bool.true (List.map Go.Proofs.Ytffcpblbdfjagaa.L1.roE l)), Option.some (Go.Sx.Blk.mk Bool.true (34 : Go.TypeId) (3 : Nat) Bool.true [Go.Sx.AV.agg [Go.Sx.AV.w64 a, Go.Sx.AV.w64 b, Go.Sx.AV.int Go.IntKind.i64 k]]), Option.some (Go.Sx.Blk.mk Bool.true (36 : Go.TypeId) (4 : Nat) Bool.true (F (Go.Sx.M.unR (List.take p l) (Go.Sx.M.Pf.mk a b k))))] = Go.Proofs.Ytffcpblbdfjagaa.L1.unSt F l a b k p' ∧ Nat.le p' (List.length l) ∧ List.length l + (1 : Nat) - p' < List.length l + (1 : Nat) - p)) ∧ ((!((Go.Sx.M.Ro.p (Go.Sx.M.at' l p)).1 == a && (Go.Sx.M.Ro.p (Go.Sx.M.at' l p)).2 == b && (Go.Sx.M.Ro.p (Go.Sx.M.at' l p)).3 == k)) = Bool.false → Go.Sx.inRange Go.IntKind.i64 ((↑p : Int) + (1 : Int)) ∧ ∃ (p' : Nat), Go.Sx.St.mk [Go.Sx.AV.vsl (0 : Nat) (0 : Nat) (List.length (List.map Go.Proofs.Ytffcpblbdfjagaa.L1.roE l)), Go.Sx.AV.any, Go.Sx.AV.any, Go.Sx.AV.ptr ((0 : Nat) + (1 : Nat)) (0 : Nat) (0 : Nat) Bool.true, Go.Sx.AV.any, Go.Sx.AV.vsl ((0 : Nat) + (1 : Nat) + (1 : Nat)) (0 : Nat) (List.length (Go.Sx.M.unR (List.take p l) (Go.Sx.M.Pf.mk a b k))), Go.Sx.AV.int Go.IntKind.i64 ((↑p : Int) + (1 : Int)), Go.Sx.AV.any, Go.Sx.AV.any, Go.Sx.AV.any, Go.Sx.AV.any, Go.Sx.AV.any, Go.Sx.AV.any, Go.Sx.AV.any, Go.Sx.AV.any, Go.Sx.AV.any, Go.Sx.AV.any, Go.Sx.AV.any, Go.Sx.AV.any, Go.Sx.AV.any, Go.Sx.AV.any, Go.Sx.AV.any, Go.Sx.AV.any, Go.Sx.AV.any, Go.Sx.AV.any, Go.Sx.AV.any, Go.Sx.AV.any, Go.Sx.AV.any, Go.Sx.AV.any, Go.Sx.AV.any, Go.Sx.AV.any, Go.Sx.AV.any, Go.Sx.AV.any, Go.Sx.AV.any, Go.Sx.AV.any, Go.Sx.AV.any, Go.Sx.AV.any] [Option.some (Go.Sx.Blk.mk Bool.false (36 : Go.TypeId) (4 : Nat) Bool.true (List.map Go.Proofs.Ytffcpblbdfjagaa.L1.roE l)), Option.some (Go.Sx.Blk.mk Bool.true (34 : Go.TypeId) (3 : Nat) Bool.true [Go.Sx.AV.agg [Go.Sx.AV.w64 a, Go.Sx.AV.w64 b, Go.Sx.AV.int Go.IntKind.i64 k]]), Option.some (Go.Sx.Blk.mk Bool.true (36 : Go.TypeId) (4 : Nat) Bool.true (F (Go.Sx.M.unR (List.take p l) (Go.Sx.M.Pf.mk a b k))))] = Go.Proofs.Ytffcpblbdfjagaa.L1.unSt F l a b k p' ∧ Nat.le p' (List.length l) ∧ List.length l + (1 : Nat) - p' < List.length l + (1 : Nat) - p)) ∧ (Decidable.decide ((↑p : Int) < (↑(List.length (List.map Go.Proofs.Ytffcpblbdfjagaa.L1.roE l)) : Int)) = Bool.false → List.length (Go.Sx.M.unR (List.take p l) (Go.Sx.M.Pf.mk a b k)) = List.length es ∧ Option.some (Go.Sx.Blk.mk Bool.true (36 : Go.TypeId) (4 : Nat) Bool.true (F (Go.Sx.M.unR (List.take p l) (Go.Sx.M.Pf.mk a b k)))) = Option.some (Go.Sx.Blk.mk Bool.true (36 : Go.TypeId) (4 : Nat) Bool.true es))) := by kernel_rfl

theorem rrunderCs_ok : ∀ e ∈ rrunderCs, SpecOK Try.prog e.1 e.2 := by
  intro e he
  simp only [rrunderCs, List.mem_cons, List.not_mem_nil, or_false] at he
  rcases he with rfl
  · exact rcovers_ok

theorem rrunder_ok : SpecOK Try.prog 35 (genSpec [pRefR, none] rrunderF) := by
  refine genSpec_ok (run_ok (l := rrunderCs) rrunderCs_ok mixed noNG) fun l R hF => ?_
  unfold rrunderF at hF
  split at hF
  · rename_i r_l a b k
    obtain ⟨hr_l, hl, hF⟩ := hF
    generalize deR r_l = l at hr_l hl hF
    subst hr_l
    refine ⟨_, hF, trivial, (unH (List.map roE) l a b k), ?_⟩
    show run rrunderCs Try.prog _ [.vsl 0 0 (l.map roE).length, .agg [.w64 a, .w64 b, .int .i64 k]] [some ⟨false, (pRefR.getD (0, 0)).1, (pRefR.getD (0, 0)).2, true, (l.map roE)⟩] _ _
    rw [rrunder_run]
    refine ⟨⟨rfl, Nat.zero_le _⟩, ?_⟩
    intro p hp0
    have hp0 : p ≤ l.length := hp0
    have hf : (unR (l.take p) ⟨a, b, k⟩).length ≤ 1000000 := Nat.le_trans (List.length_filter_le _ _) (by rw [List.length_take]; omega)
    refine ⟨fun hlt => ?_, fun hge => ?_⟩
    · have hp : p < l.length := by simp only [decide_eq_true_eq, List.length_map] at hlt; omega
      have B : 0 ≤ (p : Int) ∧ (p : Int) < ((l.map roE).length : Int) := by rw [List.length_map]; omega
      have hd : ((at' l p).p.a == a && (at' l p).p.b == b && (at' l p).p.len == k) = decide ((at' l p).p = ⟨a, b, k⟩) := eqPf _ a b k
      refine ⟨B, read_rows B.1 B.2 (rr_p _), fun hn => ⟨B, read_rows B.1 B.2 (rr_p _), fun hc => ?_, fun hc => ?_⟩, fun hn => ?_⟩
      · rw [hd] at hn
        have hc : cvP ⟨a, b, k⟩ (at' l p).p = true := hc
        have e : unR (l.take (p + 1)) ⟨a, b, k⟩ = unR (l.take p) ⟨a, b, k⟩ ++ [at' l p] := by rw [take_one hp, unR_snoc, if_pos ⟨by simpa using hn, hc⟩]
        refine ⟨B, read_rows B.1 B.2 (rr_whole _), ⟨by omega, by omega, by simp, by rw [List.length_map]; exact Nat.le_refl _⟩, ?_, inR (by omega) (by omega), p + 1, ?_, hp, by omega⟩
        · rw [e, List.map_append, List.take_of_length_le (by rw [List.length_map]; exact Nat.le_refl _)]; rfl
        · unfold unSt; rw [e, List.length_append]; rfl
      · have hc : cvP ⟨a, b, k⟩ (at' l p).p = false := hc
        have e : unR (l.take (p + 1)) ⟨a, b, k⟩ = unR (l.take p) ⟨a, b, k⟩ := by rw [take_one hp, unR_snoc, if_neg (fun h => by rw [h.2] at hc; cases hc)]
        exact ⟨inR (by omega) (by omega), p + 1, by unfold unSt; rw [e]; rfl, hp, by omega⟩
      · rw [hd] at hn
        have e : unR (l.take (p + 1)) ⟨a, b, k⟩ = unR (l.take p) ⟨a, b, k⟩ := by rw [take_one hp, unR_snoc, if_neg (fun h => by simp at hn; exact h.1 hn)]
        exact ⟨inR (by omega) (by omega), p + 1, by unfold unSt; rw [e]; rfl, hp, by omega⟩
    · have hp : p = l.length := by simp only [decide_eq_false_iff_not, List.length_map] at hge; omega
      subst hp
      rw [List.take_length]
      exact ⟨by rw [List.length_map], rfl⟩
  · exact hF.elim


def rrfindF : List Arg → (Res → Prop) → Prop
  | [.row r_l, .v (.agg [.w64 a, .w64 b, .int .i64 k])], R => r_l = (deR r_l).map roE ∧ (deR r_l).length ≤ 9223372036854775807 ∧ R (.v (.tuple [.agg [.w64 (roO (fdR (deR r_l) ⟨a, b, k⟩)).p.a, .w64 (roO (fdR (deR r_l) ⟨a, b, k⟩)).p.b, .int .i64 (roO (fdR (deR r_l) ⟨a, b, k⟩)).p.len, .int .i64 (roO (fdR (deR r_l) ⟨a, b, k⟩)).act], .bool (fdR (deR r_l) ⟨a, b, k⟩).isSome]))
  | _, _ => False

theorem rrfind_run (l : List Ro) (a b : BitVec 64) (k : Int) (r : AV) : run [] Try.prog 27 [.vsl 0 0 (l.map roE).length, .agg [.w64 a, .w64 b, .int .i64 k]] [some ⟨false, (pRefR.getD (0, 0)).1, (pRefR.getD (0, 0)).2, true, (l.map roE)⟩] (fdH l a b k) (yields (.v r)) =
    ((Go.Sx.St.mk [Go.Sx.AV.vsl (0 : Nat) (0 : Nat) (List.length (List.map Go.Proofs.Ytffcpblbdfjagaa.L1.roE l)), Go.Sx.AV.any, Go.Sx.AV.any, Go.Sx.AV.ptr ((0 : Nat) + (1 : Nat)) (0 : Nat) (0 : Nat) Bool.true, Go.Sx.AV.ptr ((0 : Nat) + (1 : Nat) + (1 : Nat)) (0 : Nat) (0 : Nat) Bool.true, Go.Sx.AV.any, Go.Sx.AV.int Go.IntKind.i64 (0 : Int), Go.Sx.AV.any, Go.Sx.AV.any, Go.Sx.AV.any, Go.Sx.AV.any, Go.Sx.AV.any, Go.Sx.AV.any, Go.Sx.AV.any, Go.Sx.AV.any, Go.Sx.AV.any, Go.Sx.AV.any, Go.Sx.AV.any, Go.Sx.AV.any, Go.Sx.AV.any, Go.Sx.AV.any, Go.Sx.AV.any, Go.Sx.AV.any, Go.Sx.AV.any, Go.Sx.AV.any] [Option.some (Go.Sx.Blk.mk Bool.false (nat_lit 36) (4 : Nat) Bool.true (List.map Go.Proofs.Ytffcpblbdfjagaa.L1.roE l)), Option.some (Go.Sx.Blk.mk Bool.true (34 : Nat) (3 : Nat) Bool.true [Go.Sx.AV.agg [Go.Sx.AV.w64 a, Go.Sx.AV.w64 b, Go.Sx.AV.int Go.IntKind.i64 k]]), Option.some (Go.Sx.Blk.mk Bool.true (36 : Nat) (4 : Nat) Bool.true [Go.Sx.AV.agg [Go.Sx.AV.lit (Go.Value.int Go.IntKind.u64 (0 : Int)), Go.Sx.AV.lit (Go.Value.int Go.IntKind.u64 (0 : Int)), Go.Sx.AV.lit (Go.Value.int Go.IntKind.i64 (0 : Int)), Go.Sx.AV.lit (Go.Value.int Go.IntKind.i64 (0 : Int))]])] = Go.Proofs.Ytffcpblbdfjagaa.L1.fdSt l a b k (0 : Nat) ∧ Go.Proofs.Ytffcpblbdfjagaa.L1.fdI l a b k (0 : Nat)) ∧ ∀ (p : Nat), Go.Proofs.Ytffcpblbdfjagaa.L1.fdI l a b k p → (Decidable.decide ((↑p : Int) < (↑(List.length (List.map Go.Proofs.Ytffcpblbdfjagaa.L1.roE l)) : Int)) = Bool.true → ((0 : Int) ≤ (↑p : Int) ∧ (↑p : Int) < (↑(List.length (List.map Go.Proofs.Ytffcpblbdfjagaa.L1.roE l)) : Int)) ∧ Go.Sx.Blk.read Go.Proofs.Try.prog (Go.Sx.Blk.mk Bool.false (36 : Go.TypeId) (4 : Nat) Bool.true (List.map Go.Proofs.Ytffcpblbdfjagaa.L1.roE l)) (34 : Nat) ((0 : Nat) + Int.toNat (↑p : Int)) ((0 : Nat) + (0 : Nat)) = Option.some (Go.Sx.AV.agg [Go.Sx.AV.w64 (Go.Sx.M.Ro.p (Go.Sx.M.at' l p)).1, Go.Sx.AV.w64 (Go.Sx.M.Ro.p (Go.Sx.M.at' l p)).2, Go.Sx.AV.int Go.IntKind.i64 (Go.Sx.M.Ro.p (Go.Sx.M.at' l p)).3]) ∧ (((Go.Sx.M.Ro.p (Go.Sx.M.at' l p)).1 == a && (Go.Sx.M.Ro.p (Go.Sx.M.at' l p)).2 == b && (Go.Sx.M.Ro.p (Go.Sx.M.at' l p)).3 == k) = Bool.true → ((0 : Int) ≤ (↑p : Int) ∧ (↑p : Int) < (↑(List.length (List.map Go.Proofs.Ytffcpblbdfjagaa.L1.roE l)) : Int)) ∧ Go.Sx.Blk.read Go.Proofs.Try.prog (Go.Sx.Blk.mk Bool.false (36 : Go.TypeId) (4 : Nat) Bool.true (List.map Go.Proofs.Ytffcpblbdfjagaa.L1.roE l)) (36 : Nat) ((0 : Nat) + Int.toNat (↑p : Int)) (0 : Nat) = Option.some (Go.Sx.AV.agg [Go.Sx.AV.w64 (Go.Sx.M.Ro.p (Go.Sx.M.at' l p)).1, Go.Sx.AV.w64 (Go.Sx.M.Ro.p (Go.Sx.M.at' l p)).2, Go.Sx.AV.int Go.IntKind.i64 (Go.Sx.M.Ro.p (Go.Sx.M.at' l p)).3, Go.Sx.AV.int Go.IntKind.i64 (Go.Sx.M.at' l p).2]) ∧ Go.Sx.AV.tuple [Go.Sx.AV.agg [Go.Sx.AV.w64 (Go.Sx.M.Ro.p (Go.Sx.M.at' l p)).1, Go.Sx.AV.w64 (Go.Sx.M.Ro.p (Go.Sx.M.at' l p)).2, Go.Sx.AV.int Go.IntKind.i64 (Go.Sx.M.Ro.p (Go.Sx.M.at' l p)).3, Go.Sx.AV.int Go.IntKind.i64 (Go.Sx.M.at' l p).2], Go.Sx.AV.bool Bool.true] = r) ∧ (((Go.Sx.M.Ro.p (Go.Sx.M.at' l p)).1 == a && (Go.Sx.M.Ro.p (Go.Sx.M.at' l p)).2 == b && (Go.Sx.M.Ro.p (Go.Sx.M.at' l p)).3 == k) = Bool.false → Go.Sx.inRange Go.IntKind.i64 ((↑p : Int) + (1 : Int)) ∧ ∃ (p' : Nat), Go.Sx.St.mk [Go.Sx.AV.vsl (0 : Nat) (0 : Nat) (List.length (List.map Go.Proofs.Ytffcpblbdfjagaa.L1.roE l)), Go.Sx.AV.any, Go.Sx.AV.any, Go.Sx.AV.ptr ((0 : Nat) + (1 : Nat)) (0 : Nat) (0 : Nat) Bool.true, Go.Sx.AV.ptr ((0 : Nat) + (1 : Nat) + (1 : Nat)) (0 : Nat) (0 : Nat) Bool.true, Go.Sx.AV.any, Go.Sx.AV.int Go.IntKind.i64 ((↑p : Int) + (1 : Int)), Go.Sx.AV.any, Go.Sx.AV.any, Go.Sx.AV.any, Go.Sx.AV.any, Go.Sx.AV.any, Go.Sx.AV.any, Go.Sx.AV.any, Go.Sx.AV.any, Go.Sx.AV.any, Go.Sx.AV.any, Go.Sx.AV.any, Go.Sx.AV.any, Go.Sx.AV.any, Go.Sx.AV.any, Go.Sx.AV.any, Go.Sx.AV.any, Go.Sx.AV.any, Go.Sx.AV.any] [Option.some (Go.Sx.Blk.mk Bool.false (36 : Go.TypeId) (4 : Nat) Bool.true (List.map Go.Proofs.Ytffcpblbdfjagaa.L1.roE l)), Option.some (Go.Sx.Blk.mk Bool.true (34 : Go.TypeId) (3 : Nat) Bool.true [Go.Sx.AV.agg [Go.Sx.AV.w64 a, Go.Sx.AV.w64 b, Go.Sx.AV.int Go.IntKind.i64 k]]), Option.some (Go.Sx.Blk.mk Bool.true (36 : Go.TypeId) (4 : Nat) Bool.true [Go.Sx.AV.agg [Go.Sx.AV.lit (Go.Value.int Go.IntKind.u64 (0 : Int)), Go.Sx.AV.lit (Go.Value.int Go.IntKind.u64 (0 : Int)), Go.Sx.AV.lit (Go.Value.int Go.IntKind.i64 (0 : Int)), Go.Sx.AV.lit (Go.Value.int Go.IntKind.i64 (0 : Int))]])] = Go.Proofs.Ytffcpblbdfjagaa.L1.fdSt l a b k p' ∧ Go.Proofs.Ytffcpblbdfjagaa.L1.fdI l a b k p' ∧ List.length l + (1 : Nat) - p' < List.length l + (1 : Nat) - p)) ∧ (Decidable.decide ((↑p : Int) < (↑(List.length (List.map Go.Proofs.Ytffcpblbdfjagaa.L1.roE l)) : Int)) = Bool.false → Go.Sx.AV.tuple [Go.Sx.AV.agg [Go.Sx.AV.w64 (BitVec.ofInt (64 : Nat) (0 : Int)), Go.Sx.AV.w64 (BitVec.ofInt (64 : Nat) (0 : Int)), Go.Sx.AV.int Go.IntKind.i64 (0 : Int), Go.Sx.AV.int Go.IntKind.i64 (0 : Int)], Go.Sx.AV.bool Bool.false] = r)) := by kernel_rfl

theorem rrfind_ok : SpecOK Try.prog 27 (genSpec [pRefR, none] rrfindF) := by
  refine genSpec_ok none_ok fun l R hF => ?_
  unfold rrfindF at hF
  split at hF
  · rename_i r_l a b k
    obtain ⟨hr_l, hl, hF⟩ := hF
    generalize deR r_l = l at hr_l hl hF
    subst hr_l
    refine ⟨_, hF, rfl, (fdH l a b k), ?_⟩
    show run [] Try.prog _ [.vsl 0 0 (l.map roE).length, .agg [.w64 a, .w64 b, .int .i64 k]] [some ⟨false, (pRefR.getD (0, 0)).1, (pRefR.getD (0, 0)).2, true, (l.map roE)⟩] _ _
    rw [rrfind_run]
    refine ⟨⟨rfl, Nat.zero_le _, fun i hi => by omega⟩, ?_⟩
    rintro p ⟨h1, h2⟩
    refine ⟨fun hlt => ?_, fun hge => ?_⟩
    · have hp : p < l.length := by simp only [decide_eq_true_eq, List.length_map] at hlt; omega
      have B : 0 ≤ (p : Int) ∧ (p : Int) < ((l.map roE).length : Int) := by rw [List.length_map]; omega
      have hd : ((at' l p).p.a == a && (at' l p).p.b == b && (at' l p).p.len == k) = decide ((at' l p).p = ⟨a, b, k⟩) := eqPf _ a b k
      refine ⟨B, read_rows B.1 B.2 (rr_p _), fun he => ⟨B, read_rows B.1 B.2 (rr_whole _), ?_⟩, fun he => ⟨inR (by omega) (by omega), p + 1, rfl, ⟨by omega, up h2 ?_⟩, by omega⟩⟩
      · rw [hd] at he
        rw [fdR_first hp (of_decide_eq_true he) h2]; rfl
      · rw [hd] at he
        exact of_decide_eq_false he
    · have hp : p = l.length := by simp only [decide_eq_false_iff_not, List.length_map] at hge; omega
      subst hp
      rw [fdR_nil h2]; rfl
  · exact hF.elim


end Go.Proofs.Ytffcpblbdfjagaa.L1
