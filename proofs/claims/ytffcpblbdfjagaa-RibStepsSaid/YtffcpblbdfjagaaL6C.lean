/-
  Layer 6: contracts of the document's Cover, Chain; of the law's One, Of, Same, table.
-/
import Derived.Test.YtffcpblbdfjagaaL6B
namespace Go.Proofs.Ytffcpblbdfjagaa.L1
open Go.Sx Go.Sx.M

/-- Those that are shorter. -/
def shR (l : List Ro) (k : Int) : List Ro := l.filter fun x => decide (x.p.len < k)

theorem shR_snoc (l : List Ro) (x : Ro) (k : Int) : shR (l ++ [x]) k = if x.p.len < k then shR l k ++ [x] else shR l k := by
  unfold shR
  rw [List.filter_append]
  by_cases h : x.p.len < k
  · rw [if_pos h, List.filter_cons_of_pos (by simpa using h)]; simp
  · rw [if_neg h, List.filter_cons_of_neg (by simpa using h)]; simp

def cvSt (F : List Ro → List AV) (l : List Ro) (a b : BitVec 64) (k : Int) (p : Nat) : St :=
  ⟨[.vsl 0 0 (l.map roE).length, .any, .any, .ptr 1 0 0 true, .ptr 2 0 0 true, .any, .vsl 3 0 (shR (l.take p) k).length, .int .i64 p, .any, .any, .any, .any, .any, .any, .any, .any, .any, .any, .any, .any, .any, .any, .any, .any, .any, .any, .any, .any, .any, .any, .any, .any, .any, .any, .any, .any], [some ⟨false, 36, 4, true, l.map roE⟩, some ⟨true, 34, 3, true, [.agg [.w64 a, .w64 b, .int .i64 k]]⟩, some ⟨true, 36, 4, true, [roZ]⟩, some ⟨true, 36, 4, true, F (shR (l.take p) k)⟩]⟩
def cvM0 : Modes := ⟨[1, 0, 0, 1, 1, 0, 1, 2, 0, 0, 0, 0, 0, 0, 0, 0, 0, 0, 0, 0, 0, 0, 0, 0, 0, 0, 0, 0, 0, 0, 0, 0, 0, 0, 0, 0], [], [], [], [(6, 36, 4)]⟩
def cvM : Modes := ⟨[1, 0, 0, 1, 1, 0, 1, 1, 0, 0, 0, 0, 0, 0, 0, 0, 0, 0, 0, 0, 0, 0, 0, 0, 0, 0, 0, 0, 0, 0, 0, 0, 0, 0, 0, 0], [], [], [], []⟩
def cvM' : Modes := ⟨[0, 0, 0, 1, 1, 0, 1, 0, 0, 0, 0, 0, 0, 0, 0, 0, 0, 0, 0, 0, 0, 0, 0, 0, 0, 0, 0, 0, 0, 0, 0, 0, 0, 0, 0, 0], [], [], [], []⟩
def cvH (F : List Ro → List AV) (l : List Ro) (a b : BitVec 64) (k : Int) : List Hint := [.linv _ 0 (cvSt F l a b k) (fun p => p ≤ l.length) (fun p => l.length + 1 - p) cvM0 cvM cvM' (fun _ => []) fun p =>
  [.fork [.dy, .cell (.int .i64 (at' l p).p.len), .fork [.dy, .cell (roE (at' l p)), .rows (F (shR (l.take (p + 1)) k)), .nw] [.nw]] []]]

/-- Chains, of rows of less than N. -/
def chnF (N : Nat) : List Arg → (Res → Prop) → Prop
  | [.row r_l], R => r_l = (deR r_l).map roE ∧ (deR r_l).length ≤ 1000000 ∧ (deR r_l).length < N ∧ R (.v (.int .i64 (chR (deR r_l))))
  | _, _ => False

noncomputable def chnCs (N : Nat) : List (FuncId × Sx.Spec) := [(37, genSpec [pRefR] (chnF N)), (35, genSpec [pRefR, none] rrunderF)]

/-- The most of the first n. -/
def chG (l : List Ro) (n : Nat) : Int := (l.take n).foldl (fun m x => if 1 + chR (unR l x.p) > m then 1 + chR (unR l x.p) else m) 0

def chSt (l : List Ro) (p : Nat) : St := ⟨[.vsl 0 0 (l.map roE).length, .any, .any, .int .i64 (chG l p), .int .i64 p, .any, .any, .any, .any, .any, .any, .any, .any, .any, .any, .any, .any, .any, .any, .any, .any, .any, .any, .any, .any, .any], [some ⟨false, 36, 4, true, l.map roE⟩]⟩
def chM0 : Modes := ⟨[1, 0, 0, 2, 2, 0, 0, 0, 0, 0, 0, 0, 0, 0, 0, 0, 0, 0, 0, 0, 0, 0, 0, 0, 0, 0], [], [], [], []⟩
def chM : Modes := ⟨[1, 0, 0, 1, 1, 0, 0, 0, 0, 0, 0, 0, 0, 0, 0, 0, 0, 0, 0, 0, 0, 0, 0, 0, 0, 0], [], [], [], []⟩
def chM' : Modes := ⟨[0, 0, 0, 1, 0, 0, 0, 0, 0, 0, 0, 0, 0, 0, 0, 0, 0, 0, 0, 0, 0, 0, 0, 0, 0, 0], [], [], [], []⟩
def chH (l : List Ro) : List Hint := [.linv _ 0 (chSt l) (fun p => p ≤ l.length) (fun p => l.length + 1 - p) chM0 chM chM' (fun _ => []) fun p =>
  [.fork [.dy, .cell (pfE (at' l p).p), .nw, .fork [.nw] [.nw]] []]]

def ofrSt (F : List Ro → List AV) (l : List Ro) (p : Nat) : St :=
  ⟨[.any, .any, .any, .vsl 1 0 p, .any, .any, .vsl 0 0 (l.map roE).length, .int .i64 (l.map roE).length, .int .i64 p, .any, .any, .any, .any, .any, .any, .any, .any, .any, .any], [some ⟨false, 29, 4, true, l.map roE⟩, some ⟨true, 36, 4, true, F (l.take p)⟩]⟩
def ofrM0 : Modes := ⟨[0, 0, 0, 1, 0, 0, 1, 1, 2, 0, 0, 0, 0, 0, 0, 0, 0, 0, 0], [], [], [], [(3, 36, 4)]⟩
def ofrM : Modes := ⟨[0, 0, 0, 1, 0, 0, 1, 1, 1, 0, 0, 0, 0, 0, 0, 0, 0, 0, 0], [], [], [], []⟩
def ofrH (F : List Ro → List AV) (l : List Ro) : List Hint := [.linv _ 0 (ofrSt F l) (fun p => p ≤ l.length) (fun p => l.length + 1 - p) ofrM0 ofrM ofrM (fun _ => []) fun p =>
  [.fork [.dy, .cell (roE (at' l p)), .rows (F (l.take (p + 1))), .nw] []]]

def smSt (l m : List Ro) (p : Nat) : St :=
  ⟨[.vsl 0 0 (l.map roE).length, .vsl 1 0 (m.map roE).length, .any, .any, .any, .any, .any, .any, .any, .any, .any, .any, .int .i64 (l.map roE).length, .int .i64 p, .any, .any, .any, .any, .any, .any, .any, .any, .any, .any, .any, .any, .any], [some ⟨false, 29, 4, true, l.map roE⟩, some ⟨false, 36, 4, true, m.map roE⟩]⟩
def smM0 : Modes := ⟨[1, 1, 0, 0, 0, 0, 0, 0, 0, 0, 0, 0, 1, 2, 0, 0, 0, 0, 0, 0, 0, 0, 0, 0, 0, 0, 0], [], [], [], []⟩
def smM : Modes := ⟨[1, 1, 0, 0, 0, 0, 0, 0, 0, 0, 0, 0, 1, 1, 0, 0, 0, 0, 0, 0, 0, 0, 0, 0, 0, 0, 0], [], [], [], []⟩
def smM' : Modes := ⟨[0, 0, 0, 0, 2, 0, 0, 0, 0, 0, 0, 0, 0, 0, 0, 0, 0, 0, 0, 0, 0, 0, 0, 0, 0, 0, 0], [], [], [], []⟩
def smI (l m : List Ro) (p : Nat) : Prop := p ≤ l.length ∧ ∀ i, i < p → at' l i = at' m i
def smH (l m : List Ro) : List Hint := [.fork [] [.linv _ 0 (smSt l m) (smI l m) (fun p => l.length + 1 - p) smM0 smM smM' (fun _ => []) fun p =>
  [.fork [.dy, .cell (roE (at' l p)), .dy, .cell (roE (at' m p)), .fork [] [.nw]] []]]]

theorem eqRo (x y : Ro) : (x.p.a == y.p.a && x.p.b == y.p.b && x.p.len == y.p.len && x.act == y.act) = decide (x = y) := by
  obtain ⟨⟨a, b, k⟩, j⟩ := x
  obtain ⟨⟨c, d, m⟩, n⟩ := y
  rw [Bool.eq_iff_iff]
  simp [and_assoc]

theorem chF_le : ∀ (n : Nat) (l : List Ro), 0 ≤ chF n l ∧ chF n l ≤ (n : Int)
  | 0, _ => ⟨Int.le_refl _, Int.le_refl _⟩
  | n + 1, l => by
    unfold chF
    refine ⟨(mxF_ge (fun x => 1 + chF n (unR l x.p)) l 0).1, ?_⟩
    rcases mxF_is (fun x => 1 + chF n (unR l x.p)) l 0 with e | ⟨x, _, e⟩
    · rw [e]; omega
    · rw [e]
      have := (chF_le n (unR l x.p)).2
      omega

theorem chR_le (l : List Ro) : 0 ≤ chR l ∧ chR l ≤ (l.length : Int) := chF_le _ l

theorem chG_snoc {l : List Ro} {p : Nat} (hp : p < l.length) : chG l (p + 1) = if 1 + chR (unR l (at' l p).p) > chG l p then 1 + chR (unR l (at' l p).p) else chG l p := by
  unfold chG
  rw [take_one hp, List.foldl_append]
  rfl

theorem chG_end (l : List Ro) : chG l l.length = chR l := by
  unfold chG
  rw [List.take_length]
  cases l with
  | nil => rfl
  | cons y l =>
    have d : chR (y :: l) = (y :: l).foldl (fun m x => if 1 + chF l.length (unR (y :: l) x.p) > m then 1 + chF l.length (unR (y :: l) x.p) else m) 0 := rfl
    rw [d]
    refine foldl_same _ _ fun a x hx => ?_
    have e : chR (unR (y :: l) x.p) = chF l.length (unR (y :: l) x.p) := chF_stable _ _ _ (Nat.le_refl _) (by have := unR_lt hx; rw [List.length_cons] at this; omega)
    rw [e]

def rrcoverF : List Arg → (Res → Prop) → Prop
  | [.row r_l, .v (.agg [.w64 a, .w64 b, .int .i64 k])], R => r_l = (deR r_l).map roE ∧ (deR r_l).length ≤ 1000000 ∧ R (.v (.tuple [.agg [.w64 (roO (cvrR (deR r_l) ⟨a, b, k⟩)).p.a, .w64 (roO (cvrR (deR r_l) ⟨a, b, k⟩)).p.b, .int .i64 (roO (cvrR (deR r_l) ⟨a, b, k⟩)).p.len, .int .i64 (roO (cvrR (deR r_l) ⟨a, b, k⟩)).act], .bool (cvrR (deR r_l) ⟨a, b, k⟩).isSome]))
  | _, _ => False

noncomputable def rrcoverCs : List (FuncId × Sx.Spec) := [(28, genSpec [pRefR, none] rrbestF)]

theorem rrcover_run (l : List Ro) (a b : BitVec 64) (k : Int) (F : List Ro → List AV) (r : AV) : run rrcoverCs Try.prog 33 [.vsl 0 0 (l.map roE).length, .agg [.w64 a, .w64 b, .int .i64 k]] [some ⟨false, (pRefR.getD (0, 0)).1, (pRefR.getD (0, 0)).2, true, (l.map roE)⟩] (cvH F l a b k) (yields (.v r)) =
    ((Go.Sx.St.mk [Go.Sx.AV.vsl (0 : Nat) (0 : Nat) (List.length (List.map Go.Proofs.Ytffcpblbdfjagaa.L1.roE l)), Go.Sx.AV.any, Go.Sx.AV.any, Go.Sx.AV.ptr ((0 : Nat) + (1 : Nat)) (0 : Nat) (0 : Nat) Bool.true, Go.Sx.AV.ptr ((0 : Nat) + (1 : Nat) + (1 : Nat)) (0 : Nat) (0 : Nat) Bool.true, Go.Sx.AV.any, Go.Sx.AV.vsl (List.length [Option.some (Go.Sx.Blk.mk Bool.false (nat_lit 36) (4 : Nat) Bool.true (List.map Go.Proofs.Ytffcpblbdfjagaa.L1.roE l)), Option.some (Go.Sx.Blk.mk Bool.true (34 : Nat) (3 : Nat) Bool.true [Go.Sx.AV.agg [Go.Sx.AV.w64 a, Go.Sx.AV.w64 b, Go.Sx.AV.int Go.IntKind.i64 k]]), Option.some (Go.Sx.Blk.mk Bool.true (36 : Nat) (4 : Nat) Bool.true [Go.Sx.AV.agg [Go.Sx.AV.lit (Go.Value.int Go.IntKind.u64 (0 : Int)), Go.Sx.AV.lit (Go.Value.int Go.IntKind.u64 (0 : Int)), Go.Sx.AV.lit (Go.Value.int Go.IntKind.i64 (0 : Int)), Go.Sx.AV.lit (Go.Value.int Go.IntKind.i64 (0 : Int))]])]) (0 : Nat) (0 : Nat), Go.Sx.AV.int Go.IntKind.i64 (0 : Int), Go.Sx.AV.any, Go.Sx.AV.any, Go.Sx.AV.any, Go.Sx.AV.any, Go.Sx.AV.any, Go.Sx.AV.any, Go.Sx.AV.any, Go.Sx.AV.any, Go.Sx.AV.any, Go.Sx.AV.any, Go.Sx.AV.any, Go.Sx.AV.any, Go.Sx.AV.any, Go.Sx.AV.any, Go.Sx.AV.any, Go.Sx.AV.any, Go.Sx.AV.any, Go.Sx.AV.any, Go.Sx.AV.any, Go.Sx.AV.any, Go.Sx.AV.any, Go.Sx.AV.any, Go.Sx.AV.any, Go.Sx.AV.any, Go.Sx.AV.any, Go.Sx.AV.any, Go.Sx.AV.any, Go.Sx.AV.any] ([Option.some (Go.Sx.Blk.mk Bool.false (nat_lit 36) (4 : Nat) Bool.true (List.map Go.Proofs.Ytffcpblbdfjagaa.L1.roE l)), Option.some (Go.Sx.Blk.mk Bool.true (34 : Nat) (3 : Nat) Bool.true [Go.Sx.AV.agg [Go.Sx.AV.w64 a, Go.Sx.AV.w64 b, Go.Sx.AV.int Go.IntKind.i64 k]]), Option.some (Go.Sx.Blk.mk Bool.true (36 : Nat) (4 : Nat) Bool.true [Go.Sx.AV.agg [Go.Sx.AV.lit (Go.Value.int Go.IntKind.u64 (0 : Int)), Go.Sx.AV.lit (Go.Value.int Go.IntKind.u64 (0 : Int)), Go.Sx.AV.lit (Go.Value.int Go.IntKind.i64 (0 : Int)), Go.Sx.AV.lit (Go.Value.int Go.IntKind.i64 (0 : Int))]])] ++ [Option.some (Go.Sx.Blk.mk Bool.true (36 : Go.TypeId) (4 : Nat) Bool.true [])]) = Go.Proofs.Ytffcpblbdfjagaa.L1.cvSt F l a b k (0 : Nat) ∧ Nat.le (0 : Nat) (List.length l)) ∧ ∀ (p : Nat), Nat.le p (List.length l) → (Decidable.decide ((↑p : Int) < (↑(List.length (List.map Go.Proofs.Ytffcpblbdfjagaa.L1.roE l)) : Int)) = Bool.true → ((0 : Int) ≤ (↑p : Int) ∧ (↑p : Int) < (↑(List.length (List.map Go.Proofs.Ytffcpblbdfjagaa.L1.roE l)) : Int)) ∧ Go.Sx.Blk.read Go.Proofs.Try.prog (Go.Sx.Blk.mk Bool.false (36 : Go.TypeId) (4 : Nat) Bool.true (List.map Go.Proofs.Ytffcpblbdfjagaa.L1.roE l)) (3 : Nat) ((0 : Nat) + Int.toNat (↑p : Int)) ((0 : Nat) + (0 : Nat) + (2 : Nat)) = Option.some (Go.Sx.AV.int Go.IntKind.i64 (Go.Sx.M.Ro.p (Go.Sx.M.at' l p)).3) ∧ (Decidable.decide ((Go.Sx.M.Ro.p (Go.Sx.M.at' l p)).3 < k) = Bool.true → ((0 : Int) ≤ (↑p : Int) ∧ (↑p : Int) < (↑(List.length (List.map Go.Proofs.Ytffcpblbdfjagaa.L1.roE l)) : Int)) ∧ Go.Sx.Blk.read Go.Proofs.Try.prog (Go.Sx.Blk.mk Bool.false (36 : Go.TypeId) (4 : Nat) Bool.true (List.map Go.Proofs.Ytffcpblbdfjagaa.L1.roE l)) (36 : Nat) ((0 : Nat) + Int.toNat (↑p : Int)) (0 : Nat) = Option.some (Go.Sx.AV.agg [Go.Sx.AV.w64 (Go.Sx.M.Ro.p (Go.Sx.M.at' l p)).1, Go.Sx.AV.w64 (Go.Sx.M.Ro.p (Go.Sx.M.at' l p)).2, Go.Sx.AV.int Go.IntKind.i64 (Go.Sx.M.Ro.p (Go.Sx.M.at' l p)).3, Go.Sx.AV.int Go.IntKind.i64 (Go.Sx.M.at' l p).2]) ∧ ((List.length (Go.Proofs.Ytffcpblbdfjagaa.L1.shR (List.take p l) k) + (1 : Nat)) * (32 : Nat) ≤ (140737488355328 : Nat) ∧ List.length (Go.Proofs.Ytffcpblbdfjagaa.L1.shR (List.take p l) k) + (1 : Nat) ≤ (9223372036854775807 : Nat) ∧ (0 : Nat) + (1 : Nat) ≤ List.length [Go.Sx.AV.agg [Go.Sx.AV.w64 (Go.Sx.M.Ro.p (Go.Sx.M.at' l p)).1, Go.Sx.AV.w64 (Go.Sx.M.Ro.p (Go.Sx.M.at' l p)).2, Go.Sx.AV.int Go.IntKind.i64 (Go.Sx.M.Ro.p (Go.Sx.M.at' l p)).3, Go.Sx.AV.int Go.IntKind.i64 (Go.Sx.M.at' l p).2]] ∧ List.length (Go.Proofs.Ytffcpblbdfjagaa.L1.shR (List.take p l) k) ≤ List.length (F (Go.Proofs.Ytffcpblbdfjagaa.L1.shR (List.take p l) k))) ∧ List.take (List.length (Go.Proofs.Ytffcpblbdfjagaa.L1.shR (List.take p l) k)) (F (Go.Proofs.Ytffcpblbdfjagaa.L1.shR (List.take p l) k)) ++ [Go.Sx.AV.agg [Go.Sx.AV.w64 (Go.Sx.M.Ro.p (Go.Sx.M.at' l p)).1, Go.Sx.AV.w64 (Go.Sx.M.Ro.p (Go.Sx.M.at' l p)).2, Go.Sx.AV.int Go.IntKind.i64 (Go.Sx.M.Ro.p (Go.Sx.M.at' l p)).3, Go.Sx.AV.int Go.IntKind.i64 (Go.Sx.M.at' l p).2]] = F (Go.Proofs.Ytffcpblbdfjagaa.L1.shR (List.take (p + (1 : Nat)) l) k) ∧ Go.Sx.inRange Go.IntKind.i64 ((↑p : Int) + (1 : Int)) ∧ ∃ (p' : Nat), Go.Sx.St.mk [Go.Sx.AV.vsl (0 : Nat) (0 : Nat) (List.length (List.map Go.Proofs.Ytffcpblbdfjagaa.L1.roE l)), Go.Sx.AV.any, Go.Sx.AV.any, Go.Sx.AV.ptr ((0 : Nat) + (1 : Nat)) (0 : Nat) (0 : Nat) Bool.true, Go.Sx.AV.ptr ((0 : Nat) + (1 : Nat) + (1 : Nat)) (0 : Nat) (0 : Nat) Bool.true, Go.Sx.AV.any, Go.Sx.AV.vsl ((0 : Nat) + (1 : Nat) + (1 : Nat) + (1 : Nat)) (0 : Nat) (List.length (Go.Proofs.Ytffcpblbdfjagaa.L1.shR (List.take p l) k) + (1 : Nat)), Go.Sx.AV.int Go.IntKind.i64 ((↑p : Int) + (1 : Int)), Go.Sx.AV.any, Go.Sx.AV.any, Go.Sx.AV.any, Go.Sx.AV.any, Go.Sx.AV.any, Go.Sx.AV.any, Go.Sx.AV.any, Go.Sx.AV.any, Go.Sx.AV.any, Go.Sx.AV.any, Go.Sx.AV.any, Go.Sx.AV.any, Go.Sx.AV.any, Go.Sx.AV.any, Go.Sx.AV.any, Go.Sx.AV.any, Go.Sx.AV.any, Go.Sx.AV.any, Go.Sx.AV.any, Go.Sx.AV.any, Go.Sx.AV.any, Go.Sx.AV.any, Go.Sx.AV.any, Go.Sx.AV.any, Go.Sx.AV.any, Go.Sx.AV.any, Go.Sx.AV.any, Go.Sx.AV.any] [Option.some (Go.Sx.Blk.mk Bool.false (36 : Go.TypeId) (4 : Nat) Bool.true (List.map Go.Proofs.Ytffcpblbdfjagaa.L1.roE l)), Option.some (Go.Sx.Blk.mk Bool.true (34 : Go.TypeId) (3 : Nat) Bool.true [Go.Sx.AV.agg [Go.Sx.AV.w64 a, Go.Sx.AV.w64 b, Go.Sx.AV.int Go.IntKind.i64 k]]), Option.some (Go.Sx.Blk.mk Bool.true (36 : Go.TypeId) (4 : Nat) Bool.true [Go.Sx.AV.agg [Go.Sx.AV.lit (Go.Value.int Go.IntKind.u64 (0 : Int)), Go.Sx.AV.lit (Go.Value.int Go.IntKind.u64 (0 : Int)), Go.Sx.AV.lit (Go.Value.int Go.IntKind.i64 (0 : Int)), Go.Sx.AV.lit (Go.Value.int Go.IntKind.i64 (0 : Int))]]), Option.some (Go.Sx.Blk.mk Bool.true (36 : Nat) (4 : Nat) Bool.true (F (Go.Proofs.Ytffcpblbdfjagaa.L1.shR (List.take (p + (1 : Nat)) l) k)))] = Go.Proofs.Ytffcpblbdfjagaa.L1.cvSt F l a b k p' ∧ Nat.le p' (List.length l) ∧ List.length l + (1 : Nat) - p' < List.length l + (1 : Nat) - p) ∧ (Decidable.decide ((Go.Sx.M.Ro.p (Go.Sx.M.at' l p)).3 < k) = Bool.false → Go.Sx.inRange Go.IntKind.i64 ((↑p : Int) + (1 : Int)) ∧ ∃ (p' : Nat), Go.Sx.St.mk [Go.Sx.AV.vsl (0 : Nat) (0 : Nat) (List.length (List.map Go.Proofs.Ytffcpblbdfjagaa.L1.roE l)), Go.Sx.AV.any, Go.Sx.AV.any, Go.Sx.AV.ptr ((0 : Nat) + (1 : Nat)) (0 : Nat) (0 : Nat) Bool.true, Go.Sx.AV.ptr ((0 : Nat) + (1 : Nat) + (1 : Nat)) (0 : Nat) (0 : Nat) Bool.true, Go.Sx.AV.any, Go.Sx.AV.vsl ((0 : Nat) + (1 : Nat) + (1 : Nat) + (1 : Nat)) (0 : Nat) (List.length (Go.Proofs.Ytffcpblbdfjagaa.L1.shR (List.take p l) k)), Go.Sx.AV.int Go.IntKind.i64 ((↑p : Int) + (1 : Int)), Go.Sx.AV.any, Go.Sx.AV.any, Go.Sx.AV.any, Go.Sx.AV.any, Go.Sx.AV.any, Go.Sx.AV.any, Go.Sx.AV.any, Go.Sx.AV.any, Go.Sx.AV.any, Go.Sx.AV.any, Go.Sx.AV.any, Go.Sx.AV.any, Go.Sx.AV.any, Go.Sx.AV.any, Go.Sx.AV.any, Go.Sx.AV.any, Go.Sx.AV.any, Go.Sx.AV.any, Go.Sx.AV.any, Go.Sx.AV.any, Go.Sx.AV.any, Go.Sx.AV.any, Go.Sx.AV.any, Go.Sx.AV.any, Go.Sx.AV.any, Go.Sx.AV.any, Go.Sx.AV.any, Go.Sx.AV.any] [Option.some (Go.Sx.Blk.mk Bool.false (36 : Go.TypeId) (4 : Nat) Bool.true (List.map Go.Proofs.Ytffcpblbdfjagaa.L1.roE l)), Option.some (Go.Sx.Blk.mk Bool.true (34 : Go.TypeId) (3 : Nat) Bool.true [Go.Sx.AV.agg [Go.Sx.AV.w64 a, Go.Sx.AV.w64 b, Go.Sx.AV.int Go.IntKind.i64 k]]), Option.some (Go.Sx.Blk.mk Bool.true (36 : Go.TypeId) (4 : Nat) Bool.true [Go.Sx.AV.agg [Go.Sx.AV.lit (Go.Value.int Go.IntKind.u64 (0 : Int)), Go.Sx.AV.lit (Go.Value.int Go.IntKind.u64 (0 : Int)), Go.Sx.AV.lit (Go.Value.int Go.IntKind.i64 (0 : Int)), Go.Sx.AV.lit (Go.Value.int Go.IntKind.i64 (0 : Int))]]), Option.some (Go.Sx.Blk.mk Bool.true (36 : Go.TypeId) (4 : Nat) Bool.true (F (Go.Proofs.Ytffcpblbdfjagaa.L1.shR (List.take p l) k)))] = Go.Proofs.Ytffcpblbdfjagaa.L1.cvSt F l a b k p' ∧ Nat.le p' (List.length l) ∧ List.length l + (1 : Nat) - p' < List.length l + (1 : Nat) - p)) ∧ (Decidable.decide ((↑p : Int) < (↑(List.length (List.map Go.Proofs.Ytffcpblbdfjagaa.L1.roE l)) : Int)) = Bool.false → (0 : Nat) + List.length (Go.Proofs.Ytffcpblbdfjagaa.L1.shR (List.take p l) k) ≤ List.length (F (Go.Proofs.Ytffcpblbdfjagaa.L1.shR (List.take p l) k)) ∧ List.take (List.length (Go.Proofs.Ytffcpblbdfjagaa.L1.shR (List.take p l) k)) (List.drop (0 : Nat) (F (Go.Proofs.Ytffcpblbdfjagaa.L1.shR (List.take p l) k))) = List.map Go.Proofs.Ytffcpblbdfjagaa.L1.roE (Go.Proofs.Ytffcpblbdfjagaa.L1.deR (List.take (List.length (Go.Proofs.Ytffcpblbdfjagaa.L1.shR (List.take p l) k)) (List.drop (0 : Nat) (F (Go.Proofs.Ytffcpblbdfjagaa.L1.shR (List.take p l) k))))) ∧ List.length (Go.Proofs.Ytffcpblbdfjagaa.L1.deR (List.take (List.length (Go.Proofs.Ytffcpblbdfjagaa.L1.shR (List.take p l) k)) (List.drop (0 : Nat) (F (Go.Proofs.Ytffcpblbdfjagaa.L1.shR (List.take p l) k))))) ≤ (9223372036854775807 : Nat) ∧ Go.Sx.AV.tuple [Go.Sx.AV.agg [Go.Sx.AV.w64 (Go.Sx.M.Ro.p (Go.Proofs.Ytffcpblbdfjagaa.L1.roO (Go.Sx.M.bsR (Go.Proofs.Ytffcpblbdfjagaa.L1.deR (List.take (List.length (Go.Proofs.Ytffcpblbdfjagaa.L1.shR (List.take p l) k)) (List.drop (0 : Nat) (Go.Sx.Blk.elems (Go.Sx.Blk.mk Bool.true (36 : Go.TypeId) (4 : Nat) Bool.true (F (Go.Proofs.Ytffcpblbdfjagaa.L1.shR (List.take p l) k))))))) a b))).1, Go.Sx.AV.w64 (Go.Sx.M.Ro.p (Go.Proofs.Ytffcpblbdfjagaa.L1.roO (Go.Sx.M.bsR (Go.Proofs.Ytffcpblbdfjagaa.L1.deR (List.take (List.length (Go.Proofs.Ytffcpblbdfjagaa.L1.shR (List.take p l) k)) (List.drop (0 : Nat) (Go.Sx.Blk.elems (Go.Sx.Blk.mk Bool.true (36 : Go.TypeId) (4 : Nat) Bool.true (F (Go.Proofs.Ytffcpblbdfjagaa.L1.shR (List.take p l) k))))))) a b))).2, Go.Sx.AV.int Go.IntKind.i64 (Go.Sx.M.Ro.p (Go.Proofs.Ytffcpblbdfjagaa.L1.roO (Go.Sx.M.bsR (Go.Proofs.Ytffcpblbdfjagaa.L1.deR (List.take (List.length (Go.Proofs.Ytffcpblbdfjagaa.L1.shR (List.take p l) k)) (List.drop (0 : Nat) (Go.Sx.Blk.elems (Go.Sx.Blk.mk Bool.true (36 : Go.TypeId) (4 : Nat) Bool.true (F (Go.Proofs.Ytffcpblbdfjagaa.L1.shR (List.take p l) k))))))) a b))).3, Go.Sx.AV.int Go.IntKind.i64 (Go.Proofs.Ytffcpblbdfjagaa.L1.roO (Go.Sx.M.bsR (Go.Proofs.Ytffcpblbdfjagaa.L1.deR (List.take (List.length (Go.Proofs.Ytffcpblbdfjagaa.L1.shR (List.take p l) k)) (List.drop (0 : Nat) (Go.Sx.Blk.elems (Go.Sx.Blk.mk Bool.true (36 : Go.TypeId) (4 : Nat) Bool.true (F (Go.Proofs.Ytffcpblbdfjagaa.L1.shR (List.take p l) k))))))) a b)).2], Go.Sx.AV.bool (Option.isSome (Go.Sx.M.bsR (Go.Proofs.Ytffcpblbdfjagaa.L1.deR (List.take (List.length (Go.Proofs.Ytffcpblbdfjagaa.L1.shR (List.take p l) k)) (List.drop (0 : Nat) (F (Go.Proofs.Ytffcpblbdfjagaa.L1.shR (List.take p l) k))))) a b))] = r)) := by kernel_rfl

theorem rrcoverCs_ok : ∀ e ∈ rrcoverCs, SpecOK Try.prog e.1 e.2 := by
  intro e he
  simp only [rrcoverCs, List.mem_cons, List.not_mem_nil, or_false] at he
  rcases he with rfl
  · exact rrbest_ok

theorem rrcover_ok : SpecOK Try.prog 33 (genSpec [pRefR, none] rrcoverF) := by
  refine genSpec_ok (run_ok (l := rrcoverCs) rrcoverCs_ok mixed noNG) fun l R hF => ?_
  unfold rrcoverF at hF
  split at hF
  · rename_i r_l a b k
    obtain ⟨hr_l, hl, hF⟩ := hF
    generalize deR r_l = l at hr_l hl hF
    subst hr_l
    refine ⟨_, hF, rfl, (cvH (List.map roE) l a b k), ?_⟩
    show run rrcoverCs Try.prog _ [.vsl 0 0 (l.map roE).length, .agg [.w64 a, .w64 b, .int .i64 k]] [some ⟨false, (pRefR.getD (0, 0)).1, (pRefR.getD (0, 0)).2, true, (l.map roE)⟩] _ _
    rw [rrcover_run]
    refine ⟨⟨rfl, Nat.zero_le _⟩, ?_⟩
    intro p hp0
    have hp0 : p ≤ l.length := hp0
    have hf : (shR (l.take p) k).length ≤ 1000000 := Nat.le_trans (List.length_filter_le _ _) (by rw [List.length_take]; omega)
    refine ⟨fun hlt => ?_, fun hge => ?_⟩
    · have hp : p < l.length := by simp only [decide_eq_true_eq, List.length_map] at hlt; omega
      have B : 0 ≤ (p : Int) ∧ (p : Int) < ((l.map roE).length : Int) := by rw [List.length_map]; omega
      refine ⟨B, read_rows B.1 B.2 (ro_len _), fun hc => ?_, fun hc => ?_⟩
      · have e : shR (l.take (p + 1)) k = shR (l.take p) k ++ [at' l p] := by rw [take_one hp, shR_snoc, if_pos (of_decide_eq_true hc)]
        refine ⟨B, read_rows B.1 B.2 (rr_whole _), ⟨by omega, by omega, by simp, by rw [List.length_map]; exact Nat.le_refl _⟩, ?_, inR (by omega) (by omega), p + 1, ?_, hp, by omega⟩
        · rw [e, List.map_append, List.take_of_length_le (by rw [List.length_map]; exact Nat.le_refl _)]; rfl
        · unfold cvSt; rw [e, List.length_append]; rfl
      · have e : shR (l.take (p + 1)) k = shR (l.take p) k := by rw [take_one hp, shR_snoc, if_neg (of_decide_eq_false hc)]
        exact ⟨inR (by omega) (by omega), p + 1, by unfold cvSt; rw [e]; rfl, hp, by omega⟩
    · have hp : p = l.length := by simp only [decide_eq_false_iff_not, List.length_map] at hge; omega
      subst hp
      rw [List.take_length] at *
      have tk : List.take (shR l k).length (List.drop 0 ((shR l k).map roE)) = (shR l k).map roE := by rw [List.drop_zero, List.take_of_length_le (by rw [List.length_map]; exact Nat.le_refl _)]
      rw [tk, deR_map]
      exact ⟨by rw [List.length_map]; omega, rfl, by omega, rfl⟩
  · exact hF.elim


def one6F : List Arg → (Res → Prop) → Prop
  | [.v (.agg [.w64 a, .w64 b, .int .i64 k, .int .i64 j])], R => R (.v (.agg [.w64 a, .w64 b, .int .i64 k, .int .i64 j]))
  | _, _ => False

theorem one6_run (a b : BitVec 64) (k j : Int) (r : AV) : run [] Try.prog 14 [.agg [.w64 a, .w64 b, .int .i64 k, .int .i64 j]] [] [] (yields (.v r)) =
    (Go.Sx.AV.agg [Go.Sx.AV.w64 a, Go.Sx.AV.w64 b, Go.Sx.AV.int Go.IntKind.i64 k, Go.Sx.AV.int Go.IntKind.i64 j] = r) := by kernel_rfl

theorem one6_ok : SpecOK Try.prog 14 (genSpec [none] one6F) := by
  refine genSpec_ok none_ok fun l R hF => ?_
  unfold one6F at hF
  split at hF
  · rename_i a b k j
    refine ⟨_, hF, rfl, [], ?_⟩
    show run [] Try.prog _ [.agg [.w64 a, .w64 b, .int .i64 k, .int .i64 j]] [] _ _
    rw [one6_run]
    all_goals rfl
  · exact hF.elim


def of6F : List Arg → (Res → Prop) → Prop
  | [.row r_l], R => r_l = (deR r_l).map roE ∧ (deR r_l).length ≤ 1000000 ∧ R (.vrow 36 4 ((deR r_l).map roE))
  | _, _ => False

theorem of6_run (l : List Ro) (F : List Ro → List AV) (es : List AV) : run [] Try.prog 17 [.vsl 0 0 (l.map roE).length] [some ⟨false, (pRo.getD (0, 0)).1, (pRo.getD (0, 0)).2, true, (l.map roE)⟩] (ofrH F l) (yields (.vrow 36 4 es)) =
    ((Go.Sx.St.mk [Go.Sx.AV.any, Go.Sx.AV.any, Go.Sx.AV.any, Go.Sx.AV.vsl (List.length [Option.some (Go.Sx.Blk.mk Bool.false (nat_lit 29) (4 : Nat) Bool.true (List.map Go.Proofs.Ytffcpblbdfjagaa.L1.roE l))]) (0 : Nat) (0 : Nat), Go.Sx.AV.any, Go.Sx.AV.any, Go.Sx.AV.vsl (0 : Nat) (0 : Nat) (List.length (List.map Go.Proofs.Ytffcpblbdfjagaa.L1.roE l)), Go.Sx.AV.int Go.IntKind.i64 (↑(List.length (List.map Go.Proofs.Ytffcpblbdfjagaa.L1.roE l)) : Int), Go.Sx.AV.int Go.IntKind.i64 (0 : Int), Go.Sx.AV.any, Go.Sx.AV.any, Go.Sx.AV.any, Go.Sx.AV.any, Go.Sx.AV.any, Go.Sx.AV.any, Go.Sx.AV.any, Go.Sx.AV.any, Go.Sx.AV.any, Go.Sx.AV.any] ([Option.some (Go.Sx.Blk.mk Bool.false (nat_lit 29) (4 : Nat) Bool.true (List.map Go.Proofs.Ytffcpblbdfjagaa.L1.roE l))] ++ [Option.some (Go.Sx.Blk.mk Bool.true (36 : Go.TypeId) (4 : Nat) Bool.true [])]) = Go.Proofs.Ytffcpblbdfjagaa.L1.ofrSt F l (0 : Nat) ∧ Nat.le (0 : Nat) (List.length l)) ∧ ∀ (p : Nat), Nat.le p (List.length l) → (Decidable.decide ((↑p : Int) < (↑(List.length (List.map Go.Proofs.Ytffcpblbdfjagaa.L1.roE l)) : Int)) = Bool.true → ((0 : Int) ≤ (↑p : Int) ∧ (↑p : Int) < (↑(List.length (List.map Go.Proofs.Ytffcpblbdfjagaa.L1.roE l)) : Int)) ∧ Go.Sx.Blk.read Go.Proofs.Try.prog (Go.Sx.Blk.mk Bool.false (29 : Go.TypeId) (4 : Nat) Bool.true (List.map Go.Proofs.Ytffcpblbdfjagaa.L1.roE l)) (29 : Nat) ((0 : Nat) + Int.toNat (↑p : Int)) (0 : Nat) = Option.some (Go.Sx.AV.agg [Go.Sx.AV.w64 (Go.Sx.M.Ro.p (Go.Sx.M.at' l p)).1, Go.Sx.AV.w64 (Go.Sx.M.Ro.p (Go.Sx.M.at' l p)).2, Go.Sx.AV.int Go.IntKind.i64 (Go.Sx.M.Ro.p (Go.Sx.M.at' l p)).3, Go.Sx.AV.int Go.IntKind.i64 (Go.Sx.M.at' l p).2]) ∧ ((p + (1 : Nat)) * (32 : Nat) ≤ (140737488355328 : Nat) ∧ p + (1 : Nat) ≤ (9223372036854775807 : Nat) ∧ (0 : Nat) + (1 : Nat) ≤ List.length [Go.Sx.AV.agg [Go.Sx.AV.w64 (Go.Sx.M.Ro.p (Go.Sx.M.at' l p)).1, Go.Sx.AV.w64 (Go.Sx.M.Ro.p (Go.Sx.M.at' l p)).2, Go.Sx.AV.int Go.IntKind.i64 (Go.Sx.M.Ro.p (Go.Sx.M.at' l p)).3, Go.Sx.AV.int Go.IntKind.i64 (Go.Sx.M.at' l p).2]] ∧ p ≤ List.length (F (List.take p l))) ∧ List.take p (F (List.take p l)) ++ [Go.Sx.AV.agg [Go.Sx.AV.w64 (Go.Sx.M.Ro.p (Go.Sx.M.at' l p)).1, Go.Sx.AV.w64 (Go.Sx.M.Ro.p (Go.Sx.M.at' l p)).2, Go.Sx.AV.int Go.IntKind.i64 (Go.Sx.M.Ro.p (Go.Sx.M.at' l p)).3, Go.Sx.AV.int Go.IntKind.i64 (Go.Sx.M.at' l p).2]] = F (List.take (p + (1 : Nat)) l) ∧ Go.Sx.inRange Go.IntKind.i64 ((↑p : Int) + (1 : Int)) ∧ ∃ (p' : Nat), Go.Sx.St.mk [Go.Sx.AV.any, Go.Sx.AV.any, Go.Sx.AV.any, Go.Sx.AV.vsl ((0 : Nat) + (1 : Nat)) (0 : Nat) (p + (1 : Nat)), Go.Sx.AV.any, Go.Sx.AV.any, Go.Sx.AV.vsl (0 : Nat) (0 : Nat) (List.length (List.map Go.Proofs.Ytffcpblbdfjagaa.L1.roE l)), Go.Sx.AV.int Go.IntKind.i64 (↑(List.length (List.map Go.Proofs.Ytffcpblbdfjagaa.L1.roE l)) : Int), Go.Sx.AV.int Go.IntKind.i64 ((↑p : Int) + (1 : Int)), Go.Sx.AV.any, Go.Sx.AV.any, Go.Sx.AV.any, Go.Sx.AV.any, Go.Sx.AV.any, Go.Sx.AV.any, Go.Sx.AV.any, Go.Sx.AV.any, Go.Sx.AV.any, Go.Sx.AV.any] [Option.some (Go.Sx.Blk.mk Bool.false (29 : Go.TypeId) (4 : Nat) Bool.true (List.map Go.Proofs.Ytffcpblbdfjagaa.L1.roE l)), Option.some (Go.Sx.Blk.mk Bool.true (36 : Nat) (4 : Nat) Bool.true (F (List.take (p + (1 : Nat)) l)))] = Go.Proofs.Ytffcpblbdfjagaa.L1.ofrSt F l p' ∧ Nat.le p' (List.length l) ∧ List.length l + (1 : Nat) - p' < List.length l + (1 : Nat) - p) ∧ (Decidable.decide ((↑p : Int) < (↑(List.length (List.map Go.Proofs.Ytffcpblbdfjagaa.L1.roE l)) : Int)) = Bool.false → p = List.length es ∧ Option.some (Go.Sx.Blk.mk Bool.true (36 : Go.TypeId) (4 : Nat) Bool.true (F (List.take p l))) = Option.some (Go.Sx.Blk.mk Bool.true (36 : Go.TypeId) (4 : Nat) Bool.true es))) := by kernel_rfl

theorem of6_ok : SpecOK Try.prog 17 (genSpec [pRo] of6F) := by
  refine genSpec_ok none_ok fun l R hF => ?_
  unfold of6F at hF
  split at hF
  · rename_i r_l
    obtain ⟨hr_l, hl, hF⟩ := hF
    generalize deR r_l = l at hr_l hl hF
    subst hr_l
    refine ⟨_, hF, trivial, (ofrH (List.map roE) l), ?_⟩
    show run [] Try.prog _ [.vsl 0 0 (l.map roE).length] [some ⟨false, (pRo.getD (0, 0)).1, (pRo.getD (0, 0)).2, true, (l.map roE)⟩] _ _
    rw [of6_run]
    have lt : ∀ p, p ≤ l.length → ((l.take p).map roE).length = p := fun p hp => by rw [List.length_map, List.length_take]; omega
    refine ⟨⟨rfl, Nat.zero_le _⟩, ?_⟩
    intro p hp
    have hp : p ≤ l.length := hp
    refine ⟨fun hlt => ?_, fun hge => ?_⟩
    · have hlt : p < l.length := by simp only [decide_eq_true_eq, List.length_map] at hlt; omega
      have B : 0 ≤ (p : Int) ∧ (p : Int) < ((l.map roE).length : Int) := by rw [List.length_map]; omega
      refine ⟨B, read_rows B.1 B.2 (ro_whole _), ⟨by omega, by omega, by simp, by rw [lt p hp]; omega⟩, ?_, inR (by omega) (by omega), p + 1, rfl, (by omega : p + 1 ≤ l.length), by omega⟩
      rw [List.take_of_length_le (by rw [lt p hp]; omega), List.take_add_one, at_get hlt, List.map_append]
      rfl
    · have hp : p = l.length := by simp only [decide_eq_false_iff_not, List.length_map] at hge; omega
      subst hp
      rw [List.take_length, List.length_map]
      exact ⟨rfl, rfl⟩
  · exact hF.elim


def same6F : List Arg → (Res → Prop) → Prop
  | [.row r_l, .row r_m], R => r_l = (deR r_l).map roE ∧ (deR r_l).length ≤ 9223372036854775807 ∧ r_m = (deR r_m).map roE ∧ (deR r_m).length ≤ 9223372036854775807 ∧ R (.v (.bool (decide ((deR r_l) = (deR r_m)))))
  | _, _ => False

theorem same6_run (l m : List Ro) (r : AV) : run [] Try.prog 21 [.vsl 0 0 (l.map roE).length, .vsl 1 0 (m.map roE).length] [some ⟨false, (pRo.getD (0, 0)).1, (pRo.getD (0, 0)).2, true, (l.map roE)⟩, some ⟨false, (pRefR.getD (0, 0)).1, (pRefR.getD (0, 0)).2, true, (m.map roE)⟩] (smH l m) (yields (.v r)) =
    ((((↑(List.length (List.map Go.Proofs.Ytffcpblbdfjagaa.L1.roE l)) : Int) != (↑(List.length (List.map Go.Proofs.Ytffcpblbdfjagaa.L1.roE m)) : Int)) = Bool.true → Go.Sx.AV.bool Bool.false = r) ∧ (((↑(List.length (List.map Go.Proofs.Ytffcpblbdfjagaa.L1.roE l)) : Int) != (↑(List.length (List.map Go.Proofs.Ytffcpblbdfjagaa.L1.roE m)) : Int)) = Bool.false → (Go.Sx.St.mk [Go.Sx.AV.vsl (0 : Nat) (0 : Nat) (List.length (List.map Go.Proofs.Ytffcpblbdfjagaa.L1.roE l)), Go.Sx.AV.vsl ((0 : Nat) + (1 : Nat)) (0 : Nat) (List.length (List.map Go.Proofs.Ytffcpblbdfjagaa.L1.roE m)), Go.Sx.AV.any, Go.Sx.AV.any, Go.Sx.AV.any, Go.Sx.AV.any, Go.Sx.AV.any, Go.Sx.AV.any, Go.Sx.AV.any, Go.Sx.AV.any, Go.Sx.AV.any, Go.Sx.AV.any, Go.Sx.AV.int Go.IntKind.i64 (↑(List.length (List.map Go.Proofs.Ytffcpblbdfjagaa.L1.roE l)) : Int), Go.Sx.AV.int Go.IntKind.i64 (0 : Int), Go.Sx.AV.any, Go.Sx.AV.any, Go.Sx.AV.any, Go.Sx.AV.any, Go.Sx.AV.any, Go.Sx.AV.any, Go.Sx.AV.any, Go.Sx.AV.any, Go.Sx.AV.any, Go.Sx.AV.any, Go.Sx.AV.any, Go.Sx.AV.any, Go.Sx.AV.any] [Option.some (Go.Sx.Blk.mk Bool.false (nat_lit 29) (4 : Nat) Bool.true (List.map Go.Proofs.Ytffcpblbdfjagaa.L1.roE l)), Option.some (Go.Sx.Blk.mk Bool.false (nat_lit 36) (4 : Nat) Bool.true (List.map Go.Proofs.Ytffcpblbdfjagaa.L1.roE m))] = Go.Proofs.Ytffcpblbdfjagaa.L1.smSt l m (0 : Nat) ∧ Go.Proofs.Ytffcpblbdfjagaa.L1.smI l m (0 : Nat)) ∧ ∀ (p : Nat), Go.Proofs.Ytffcpblbdfjagaa.L1.smI l m p → (Decidable.decide ((↑p : Int) < (↑(List.length (List.map Go.Proofs.Ytffcpblbdfjagaa.L1.roE l)) : Int)) = Bool.true → ((0 : Int) ≤ (↑p : Int) ∧ (↑p : Int) < (↑(List.length (List.map Go.Proofs.Ytffcpblbdfjagaa.L1.roE l)) : Int)) ∧ Go.Sx.Blk.read Go.Proofs.Try.prog (Go.Sx.Blk.mk Bool.false (29 : Go.TypeId) (4 : Nat) Bool.true (List.map Go.Proofs.Ytffcpblbdfjagaa.L1.roE l)) (29 : Nat) ((0 : Nat) + Int.toNat (↑p : Int)) (0 : Nat) = Option.some (Go.Sx.AV.agg [Go.Sx.AV.w64 (Go.Sx.M.Ro.p (Go.Sx.M.at' l p)).1, Go.Sx.AV.w64 (Go.Sx.M.Ro.p (Go.Sx.M.at' l p)).2, Go.Sx.AV.int Go.IntKind.i64 (Go.Sx.M.Ro.p (Go.Sx.M.at' l p)).3, Go.Sx.AV.int Go.IntKind.i64 (Go.Sx.M.at' l p).2]) ∧ ((0 : Int) ≤ (↑p : Int) ∧ (↑p : Int) < (↑(List.length (List.map Go.Proofs.Ytffcpblbdfjagaa.L1.roE m)) : Int)) ∧ Go.Sx.Blk.read Go.Proofs.Try.prog (Go.Sx.Blk.mk Bool.false (36 : Go.TypeId) (4 : Nat) Bool.true (List.map Go.Proofs.Ytffcpblbdfjagaa.L1.roE m)) (36 : Nat) ((0 : Nat) + Int.toNat (↑p : Int)) (0 : Nat) = Option.some (Go.Sx.AV.agg [Go.Sx.AV.w64 (Go.Sx.M.Ro.p (Go.Sx.M.at' m p)).1, Go.Sx.AV.w64 (Go.Sx.M.Ro.p (Go.Sx.M.at' m p)).2, Go.Sx.AV.int Go.IntKind.i64 (Go.Sx.M.Ro.p (Go.Sx.M.at' m p)).3, Go.Sx.AV.int Go.IntKind.i64 (Go.Sx.M.at' m p).2]) ∧ ((!((Go.Sx.M.Ro.p (Go.Sx.M.at' l p)).1 == (Go.Sx.M.Ro.p (Go.Sx.M.at' m p)).1 && (Go.Sx.M.Ro.p (Go.Sx.M.at' l p)).2 == (Go.Sx.M.Ro.p (Go.Sx.M.at' m p)).2 && (Go.Sx.M.Ro.p (Go.Sx.M.at' l p)).3 == (Go.Sx.M.Ro.p (Go.Sx.M.at' m p)).3 && (Go.Sx.M.at' l p).2 == (Go.Sx.M.at' m p).2)) = Bool.true → Go.Sx.AV.bool Bool.false = r) ∧ ((!((Go.Sx.M.Ro.p (Go.Sx.M.at' l p)).1 == (Go.Sx.M.Ro.p (Go.Sx.M.at' m p)).1 && (Go.Sx.M.Ro.p (Go.Sx.M.at' l p)).2 == (Go.Sx.M.Ro.p (Go.Sx.M.at' m p)).2 && (Go.Sx.M.Ro.p (Go.Sx.M.at' l p)).3 == (Go.Sx.M.Ro.p (Go.Sx.M.at' m p)).3 && (Go.Sx.M.at' l p).2 == (Go.Sx.M.at' m p).2)) = Bool.false → Go.Sx.inRange Go.IntKind.i64 ((↑p : Int) + (1 : Int)) ∧ ∃ (p' : Nat), Go.Sx.St.mk [Go.Sx.AV.vsl (0 : Nat) (0 : Nat) (List.length (List.map Go.Proofs.Ytffcpblbdfjagaa.L1.roE l)), Go.Sx.AV.vsl ((0 : Nat) + (1 : Nat)) (0 : Nat) (List.length (List.map Go.Proofs.Ytffcpblbdfjagaa.L1.roE m)), Go.Sx.AV.any, Go.Sx.AV.any, Go.Sx.AV.any, Go.Sx.AV.any, Go.Sx.AV.any, Go.Sx.AV.any, Go.Sx.AV.any, Go.Sx.AV.any, Go.Sx.AV.any, Go.Sx.AV.any, Go.Sx.AV.int Go.IntKind.i64 (↑(List.length (List.map Go.Proofs.Ytffcpblbdfjagaa.L1.roE l)) : Int), Go.Sx.AV.int Go.IntKind.i64 ((↑p : Int) + (1 : Int)), Go.Sx.AV.any, Go.Sx.AV.any, Go.Sx.AV.any, Go.Sx.AV.any, Go.Sx.AV.any, Go.Sx.AV.any, Go.Sx.AV.any, Go.Sx.AV.any, Go.Sx.AV.any, Go.Sx.AV.any, Go.Sx.AV.any, Go.Sx.AV.any, Go.Sx.AV.any] [Option.some (Go.Sx.Blk.mk Bool.false (29 : Go.TypeId) (4 : Nat) Bool.true (List.map Go.Proofs.Ytffcpblbdfjagaa.L1.roE l)), Option.some (Go.Sx.Blk.mk Bool.false (36 : Go.TypeId) (4 : Nat) Bool.true (List.map Go.Proofs.Ytffcpblbdfjagaa.L1.roE m))] = Go.Proofs.Ytffcpblbdfjagaa.L1.smSt l m p' ∧ Go.Proofs.Ytffcpblbdfjagaa.L1.smI l m p' ∧ List.length l + (1 : Nat) - p' < List.length l + (1 : Nat) - p)) ∧ (Decidable.decide ((↑p : Int) < (↑(List.length (List.map Go.Proofs.Ytffcpblbdfjagaa.L1.roE l)) : Int)) = Bool.false → Go.Sx.AV.bool Bool.true = r))) := by kernel_rfl

theorem same6_ok : SpecOK Try.prog 21 (genSpec [pRo, pRefR] same6F) := by
  refine genSpec_ok none_ok fun l R hF => ?_
  unfold same6F at hF
  split at hF
  · rename_i r_l r_m
    obtain ⟨hr_l, hl, hF⟩ := hF
    generalize deR r_l = l at hr_l hl hF
    subst hr_l
    obtain ⟨hr_m, hm, hF⟩ := hF
    generalize deR r_m = m at hr_m hm hF
    subst hr_m
    refine ⟨_, hF, rfl, (smH l m), ?_⟩
    show run [] Try.prog _ [.vsl 0 0 (l.map roE).length, .vsl 1 0 (m.map roE).length] [some ⟨false, (pRo.getD (0, 0)).1, (pRo.getD (0, 0)).2, true, (l.map roE)⟩, some ⟨false, (pRefR.getD (0, 0)).1, (pRefR.getD (0, 0)).2, true, (m.map roE)⟩] _ _
    rw [same6_run]
    refine ⟨fun hne => ?_, fun he => ⟨⟨rfl, Nat.zero_le _, fun i hi => by omega⟩, ?_⟩⟩
    · have hne : l ≠ m := fun e => by subst e; simp at hne
      rw [decide_eq_false hne]
    · have he : l.length = m.length := by have : ((l.length : Int)) = (m.length : Int) := by simpa using he
                                          omega
      rintro p ⟨h1, h2⟩
      refine ⟨fun hlt => ?_, fun hge => ?_⟩
      · have hp : p < l.length := by simp only [decide_eq_true_eq, List.length_map] at hlt; omega
        have B : 0 ≤ (p : Int) ∧ (p : Int) < ((l.map roE).length : Int) := by rw [List.length_map]; omega
        have B' : 0 ≤ (p : Int) ∧ (p : Int) < ((m.map roE).length : Int) := by rw [List.length_map]; omega
        refine ⟨B, read_rows B.1 B.2 (ro_whole _), B', read_rows B'.1 B'.2 (rr_whole _), fun hn => ?_, fun hn => ?_⟩
        · rw [eqRo] at hn
          have hne : at' l p ≠ at' m p := by simpa using hn
          rw [decide_eq_false fun e => hne (by rw [e])]
        · rw [eqRo] at hn
          exact ⟨inR (by omega) (by omega), p + 1, rfl, ⟨hp, up h2 (by simpa using hn)⟩, by omega⟩
      · have hp : p = l.length := by simp only [decide_eq_false_iff_not, List.length_map] at hge; omega
        have e : l = m := List.ext_getElem? fun i => by
          by_cases hi : i < l.length
          · rw [at_get hi, at_get (by omega), h2 i (by omega)]
          · rw [List.getElem?_eq_none (by omega), List.getElem?_eq_none (by omega)]
        rw [decide_eq_true e]
  · exact hF.elim


def table6F : List Arg → (Res → Prop) → Prop
  | [.row r_l], R => r_l = (deR r_l).map roE ∧ (deR r_l).length ≤ 9223372036854775807 ∧ R (.v (.bool (decide ((deR r_l).length ≤ 24) && tbR 128 (deR r_l))))
  | _, _ => False

noncomputable def table6Cs : List (FuncId × Sx.Spec) := [(17, genSpec [pRo] of6F),
  (16, genSpec [none, pRefR] rrtableF)]

theorem table6_run (l : List Ro) (r : AV) : run table6Cs Try.prog 18 [.vsl 0 0 (l.map roE).length] [some ⟨false, (pRo.getD (0, 0)).1, (pRo.getD (0, 0)).2, true, (l.map roE)⟩] [.fork [] []] (yields (.v r)) =
    ((Decidable.decide ((↑(List.length (List.map Go.Proofs.Ytffcpblbdfjagaa.L1.roE l)) : Int) ≤ (24 : Int)) = Bool.true → (0 : Nat) + List.length (List.map Go.Proofs.Ytffcpblbdfjagaa.L1.roE l) ≤ List.length (List.map Go.Proofs.Ytffcpblbdfjagaa.L1.roE l) ∧ List.take (List.length (List.map Go.Proofs.Ytffcpblbdfjagaa.L1.roE l)) (List.drop (0 : Nat) (List.map Go.Proofs.Ytffcpblbdfjagaa.L1.roE l)) = List.map Go.Proofs.Ytffcpblbdfjagaa.L1.roE (Go.Proofs.Ytffcpblbdfjagaa.L1.deR (List.take (List.length (List.map Go.Proofs.Ytffcpblbdfjagaa.L1.roE l)) (List.drop (0 : Nat) (List.map Go.Proofs.Ytffcpblbdfjagaa.L1.roE l)))) ∧ List.length (Go.Proofs.Ytffcpblbdfjagaa.L1.deR (List.take (List.length (List.map Go.Proofs.Ytffcpblbdfjagaa.L1.roE l)) (List.drop (0 : Nat) (List.map Go.Proofs.Ytffcpblbdfjagaa.L1.roE l)))) ≤ (1000000 : Nat) ∧ (0 : Nat) + List.length (List.map Go.Proofs.Ytffcpblbdfjagaa.L1.roE (Go.Proofs.Ytffcpblbdfjagaa.L1.deR (List.take (List.length (List.map Go.Proofs.Ytffcpblbdfjagaa.L1.roE l)) (List.drop (0 : Nat) (List.map Go.Proofs.Ytffcpblbdfjagaa.L1.roE l))))) ≤ List.length (List.map Go.Proofs.Ytffcpblbdfjagaa.L1.roE (Go.Proofs.Ytffcpblbdfjagaa.L1.deR (List.take (List.length (List.map Go.Proofs.Ytffcpblbdfjagaa.L1.roE l)) (List.drop (0 : Nat) (Go.Sx.Blk.elems (Go.Sx.Blk.mk Bool.false (Prod.fst (Option.getD Go.Proofs.Ytffcpblbdfjagaa.L1.pRo ((0 : Go.TypeId), (0 : Nat)))) (Prod.snd (Option.getD Go.Proofs.Ytffcpblbdfjagaa.L1.pRo ((0 : Go.TypeId), (0 : Nat)))) Bool.true (List.map Go.Proofs.Ytffcpblbdfjagaa.L1.roE l))))))) ∧ List.take (List.length (List.map Go.Proofs.Ytffcpblbdfjagaa.L1.roE (Go.Proofs.Ytffcpblbdfjagaa.L1.deR (List.take (List.length (List.map Go.Proofs.Ytffcpblbdfjagaa.L1.roE l)) (List.drop (0 : Nat) (List.map Go.Proofs.Ytffcpblbdfjagaa.L1.roE l)))))) (List.drop (0 : Nat) (List.map Go.Proofs.Ytffcpblbdfjagaa.L1.roE (Go.Proofs.Ytffcpblbdfjagaa.L1.deR (List.take (List.length (List.map Go.Proofs.Ytffcpblbdfjagaa.L1.roE l)) (List.drop (0 : Nat) (Go.Sx.Blk.elems (Go.Sx.Blk.mk Bool.false (Prod.fst (Option.getD Go.Proofs.Ytffcpblbdfjagaa.L1.pRo ((0 : Go.TypeId), (0 : Nat)))) (Prod.snd (Option.getD Go.Proofs.Ytffcpblbdfjagaa.L1.pRo ((0 : Go.TypeId), (0 : Nat)))) Bool.true (List.map Go.Proofs.Ytffcpblbdfjagaa.L1.roE l)))))))) = List.map Go.Proofs.Ytffcpblbdfjagaa.L1.roE (Go.Proofs.Ytffcpblbdfjagaa.L1.deR (List.take (List.length (List.map Go.Proofs.Ytffcpblbdfjagaa.L1.roE (Go.Proofs.Ytffcpblbdfjagaa.L1.deR (List.take (List.length (List.map Go.Proofs.Ytffcpblbdfjagaa.L1.roE l)) (List.drop (0 : Nat) (List.map Go.Proofs.Ytffcpblbdfjagaa.L1.roE l)))))) (List.drop (0 : Nat) (List.map Go.Proofs.Ytffcpblbdfjagaa.L1.roE (Go.Proofs.Ytffcpblbdfjagaa.L1.deR (List.take (List.length (List.map Go.Proofs.Ytffcpblbdfjagaa.L1.roE l)) (List.drop (0 : Nat) (Go.Sx.Blk.elems (Go.Sx.Blk.mk Bool.false (Prod.fst (Option.getD Go.Proofs.Ytffcpblbdfjagaa.L1.pRo ((0 : Go.TypeId), (0 : Nat)))) (Prod.snd (Option.getD Go.Proofs.Ytffcpblbdfjagaa.L1.pRo ((0 : Go.TypeId), (0 : Nat)))) Bool.true (List.map Go.Proofs.Ytffcpblbdfjagaa.L1.roE l)))))))))) ∧ List.length (Go.Proofs.Ytffcpblbdfjagaa.L1.deR (List.take (List.length (List.map Go.Proofs.Ytffcpblbdfjagaa.L1.roE (Go.Proofs.Ytffcpblbdfjagaa.L1.deR (List.take (List.length (List.map Go.Proofs.Ytffcpblbdfjagaa.L1.roE l)) (List.drop (0 : Nat) (List.map Go.Proofs.Ytffcpblbdfjagaa.L1.roE l)))))) (List.drop (0 : Nat) (List.map Go.Proofs.Ytffcpblbdfjagaa.L1.roE (Go.Proofs.Ytffcpblbdfjagaa.L1.deR (List.take (List.length (List.map Go.Proofs.Ytffcpblbdfjagaa.L1.roE l)) (List.drop (0 : Nat) (Go.Sx.Blk.elems (Go.Sx.Blk.mk Bool.false (Prod.fst (Option.getD Go.Proofs.Ytffcpblbdfjagaa.L1.pRo ((0 : Go.TypeId), (0 : Nat)))) (Prod.snd (Option.getD Go.Proofs.Ytffcpblbdfjagaa.L1.pRo ((0 : Go.TypeId), (0 : Nat)))) Bool.true (List.map Go.Proofs.Ytffcpblbdfjagaa.L1.roE l)))))))))) ≤ (9223372036854775807 : Nat) ∧ Go.Sx.AV.bool (Go.Sx.M.tbR (128 : Int) (Go.Proofs.Ytffcpblbdfjagaa.L1.deR (List.take (List.length (List.map Go.Proofs.Ytffcpblbdfjagaa.L1.roE (Go.Proofs.Ytffcpblbdfjagaa.L1.deR (List.take (List.length (List.map Go.Proofs.Ytffcpblbdfjagaa.L1.roE l)) (List.drop (0 : Nat) (List.map Go.Proofs.Ytffcpblbdfjagaa.L1.roE l)))))) (List.drop (0 : Nat) (List.map Go.Proofs.Ytffcpblbdfjagaa.L1.roE (Go.Proofs.Ytffcpblbdfjagaa.L1.deR (List.take (List.length (List.map Go.Proofs.Ytffcpblbdfjagaa.L1.roE l)) (List.drop (0 : Nat) (Go.Sx.Blk.elems (Go.Sx.Blk.mk Bool.false (Prod.fst (Option.getD Go.Proofs.Ytffcpblbdfjagaa.L1.pRo ((0 : Go.TypeId), (0 : Nat)))) (Prod.snd (Option.getD Go.Proofs.Ytffcpblbdfjagaa.L1.pRo ((0 : Go.TypeId), (0 : Nat)))) Bool.true (List.map Go.Proofs.Ytffcpblbdfjagaa.L1.roE l))))))))))) = r) ∧ (Decidable.decide ((↑(List.length (List.map Go.Proofs.Ytffcpblbdfjagaa.L1.roE l)) : Int) ≤ (24 : Int)) = Bool.false → Go.Sx.AV.bool Bool.false = r)) := by kernel_rfl

theorem table6Cs_ok : ∀ e ∈ table6Cs, SpecOK Try.prog e.1 e.2 := by
  intro e he
  simp only [table6Cs, List.mem_cons, List.not_mem_nil, or_false] at he
  rcases he with rfl | rfl
  · exact of6_ok
  · exact rrtable_ok

theorem table6_ok : SpecOK Try.prog 18 (genSpec [pRo] table6F) := by
  refine genSpec_ok (run_ok (l := table6Cs) table6Cs_ok mixed noNG) fun l R hF => ?_
  unfold table6F at hF
  split at hF
  · rename_i r_l
    obtain ⟨hr_l, hl, hF⟩ := hF
    generalize deR r_l = l at hr_l hl hF
    subst hr_l
    refine ⟨_, hF, rfl, [.fork [] []], ?_⟩
    show run table6Cs Try.prog _ [.vsl 0 0 (l.map roE).length] [some ⟨false, (pRo.getD (0, 0)).1, (pRo.getD (0, 0)).2, true, (l.map roE)⟩] _ _
    rw [table6_run]
    refine ⟨fun h => ?_, fun h => ?_⟩
    · have h : l.length ≤ 24 := by simp only [decide_eq_true_eq, List.length_map] at h; omega
      simp only [whole_row, deR_map]
      refine ⟨by omega, trivial, by omega, by omega, trivial, by omega, ?_⟩
      rw [decide_eq_true h]; rfl
    · have h : ¬ l.length ≤ 24 := by simp only [decide_eq_false_iff_not, List.length_map] at h; omega
      rw [decide_eq_false h]; rfl
  · exact hF.elim


theorem chn_run (N : Nat) (l : List Ro) (r : AV) : evFn (run (chnCs N) Try.prog) Try.prog 37 [.vsl 0 0 (l.map roE).length] [some ⟨false, 36, 4, true, l.map roE⟩] (chH l) (yields (.v r)) =
    ((Go.Sx.St.mk [Go.Sx.AV.vsl (0 : Nat) (0 : Nat) (List.length (List.map Go.Proofs.Ytffcpblbdfjagaa.L1.roE l)), Go.Sx.AV.any, Go.Sx.AV.any, Go.Sx.AV.int Go.IntKind.i64 (0 : Int), Go.Sx.AV.int Go.IntKind.i64 (0 : Int), Go.Sx.AV.any, Go.Sx.AV.any, Go.Sx.AV.any, Go.Sx.AV.any, Go.Sx.AV.any, Go.Sx.AV.any, Go.Sx.AV.any, Go.Sx.AV.any, Go.Sx.AV.any, Go.Sx.AV.any, Go.Sx.AV.any, Go.Sx.AV.any, Go.Sx.AV.any, Go.Sx.AV.any, Go.Sx.AV.any, Go.Sx.AV.any, Go.Sx.AV.any, Go.Sx.AV.any, Go.Sx.AV.any, Go.Sx.AV.any, Go.Sx.AV.any] [Option.some (Go.Sx.Blk.mk Bool.false (36 : Go.TypeId) (4 : Nat) Bool.true (List.map Go.Proofs.Ytffcpblbdfjagaa.L1.roE l))] = Go.Proofs.Ytffcpblbdfjagaa.L1.chSt l (0 : Nat) ∧ Nat.le (0 : Nat) (List.length l)) ∧ ∀ (p : Nat), Nat.le p (List.length l) → (Decidable.decide ((↑p : Int) < (↑(List.length (List.map Go.Proofs.Ytffcpblbdfjagaa.L1.roE l)) : Int)) = Bool.true → ((0 : Int) ≤ (↑p : Int) ∧ (↑p : Int) < (↑(List.length (List.map Go.Proofs.Ytffcpblbdfjagaa.L1.roE l)) : Int)) ∧ Go.Sx.Blk.read Go.Proofs.Try.prog (Go.Sx.Blk.mk Bool.false (36 : Go.TypeId) (4 : Nat) Bool.true (List.map Go.Proofs.Ytffcpblbdfjagaa.L1.roE l)) (34 : Nat) ((0 : Nat) + Int.toNat (↑p : Int)) ((0 : Nat) + (0 : Nat)) = Option.some (Go.Sx.AV.agg [Go.Sx.AV.w64 (Go.Sx.M.Ro.p (Go.Sx.M.at' l p)).1, Go.Sx.AV.w64 (Go.Sx.M.Ro.p (Go.Sx.M.at' l p)).2, Go.Sx.AV.int Go.IntKind.i64 (Go.Sx.M.Ro.p (Go.Sx.M.at' l p)).3]) ∧ (0 : Nat) + List.length (List.map Go.Proofs.Ytffcpblbdfjagaa.L1.roE l) ≤ List.length (List.map Go.Proofs.Ytffcpblbdfjagaa.L1.roE l) ∧ List.take (List.length (List.map Go.Proofs.Ytffcpblbdfjagaa.L1.roE l)) (List.drop (0 : Nat) (List.map Go.Proofs.Ytffcpblbdfjagaa.L1.roE l)) = List.map Go.Proofs.Ytffcpblbdfjagaa.L1.roE (Go.Proofs.Ytffcpblbdfjagaa.L1.deR (List.take (List.length (List.map Go.Proofs.Ytffcpblbdfjagaa.L1.roE l)) (List.drop (0 : Nat) (List.map Go.Proofs.Ytffcpblbdfjagaa.L1.roE l)))) ∧ List.length (Go.Proofs.Ytffcpblbdfjagaa.L1.deR (List.take (List.length (List.map Go.Proofs.Ytffcpblbdfjagaa.L1.roE l)) (List.drop (0 : Nat) (List.map Go.Proofs.Ytffcpblbdfjagaa.L1.roE l)))) ≤ (1000000 : Nat) ∧ (0 : Nat) + List.length (List.map Go.Proofs.Ytffcpblbdfjagaa.L1.roE (Go.Sx.M.unR (Go.Proofs.Ytffcpblbdfjagaa.L1.deR (List.take (List.length (List.map Go.Proofs.Ytffcpblbdfjagaa.L1.roE l)) (List.drop (0 : Nat) (List.map Go.Proofs.Ytffcpblbdfjagaa.L1.roE l)))) (Go.Sx.M.Pf.mk (Go.Sx.M.Ro.p (Go.Sx.M.at' l p)).1 (Go.Sx.M.Ro.p (Go.Sx.M.at' l p)).2 (Go.Sx.M.Ro.p (Go.Sx.M.at' l p)).3))) ≤ List.length (List.map Go.Proofs.Ytffcpblbdfjagaa.L1.roE (Go.Sx.M.unR (Go.Proofs.Ytffcpblbdfjagaa.L1.deR (List.take (List.length (List.map Go.Proofs.Ytffcpblbdfjagaa.L1.roE l)) (List.drop (0 : Nat) (Go.Sx.Blk.elems (Go.Sx.Blk.mk Bool.false (36 : Go.TypeId) (4 : Nat) Bool.true (List.map Go.Proofs.Ytffcpblbdfjagaa.L1.roE l)))))) (Go.Sx.M.Pf.mk (Go.Sx.M.Pf.a (Go.Sx.M.Ro.p (Go.Sx.M.at' l p))) (Go.Sx.M.Pf.b (Go.Sx.M.Ro.p (Go.Sx.M.at' l p))) (Go.Sx.M.Pf.len (Go.Sx.M.Ro.p (Go.Sx.M.at' l p)))))) ∧ List.take (List.length (List.map Go.Proofs.Ytffcpblbdfjagaa.L1.roE (Go.Sx.M.unR (Go.Proofs.Ytffcpblbdfjagaa.L1.deR (List.take (List.length (List.map Go.Proofs.Ytffcpblbdfjagaa.L1.roE l)) (List.drop (0 : Nat) (List.map Go.Proofs.Ytffcpblbdfjagaa.L1.roE l)))) (Go.Sx.M.Pf.mk (Go.Sx.M.Ro.p (Go.Sx.M.at' l p)).1 (Go.Sx.M.Ro.p (Go.Sx.M.at' l p)).2 (Go.Sx.M.Ro.p (Go.Sx.M.at' l p)).3)))) (List.drop (0 : Nat) (List.map Go.Proofs.Ytffcpblbdfjagaa.L1.roE (Go.Sx.M.unR (Go.Proofs.Ytffcpblbdfjagaa.L1.deR (List.take (List.length (List.map Go.Proofs.Ytffcpblbdfjagaa.L1.roE l)) (List.drop (0 : Nat) (Go.Sx.Blk.elems (Go.Sx.Blk.mk Bool.false (36 : Go.TypeId) (4 : Nat) Bool.true (List.map Go.Proofs.Ytffcpblbdfjagaa.L1.roE l)))))) (Go.Sx.M.Pf.mk (Go.Sx.M.Pf.a (Go.Sx.M.Ro.p (Go.Sx.M.at' l p))) (Go.Sx.M.Pf.b (Go.Sx.M.Ro.p (Go.Sx.M.at' l p))) (Go.Sx.M.Pf.len (Go.Sx.M.Ro.p (Go.Sx.M.at' l p))))))) = List.map Go.Proofs.Ytffcpblbdfjagaa.L1.roE (Go.Proofs.Ytffcpblbdfjagaa.L1.deR (List.take (List.length (List.map Go.Proofs.Ytffcpblbdfjagaa.L1.roE (Go.Sx.M.unR (Go.Proofs.Ytffcpblbdfjagaa.L1.deR (List.take (List.length (List.map Go.Proofs.Ytffcpblbdfjagaa.L1.roE l)) (List.drop (0 : Nat) (List.map Go.Proofs.Ytffcpblbdfjagaa.L1.roE l)))) (Go.Sx.M.Pf.mk (Go.Sx.M.Ro.p (Go.Sx.M.at' l p)).1 (Go.Sx.M.Ro.p (Go.Sx.M.at' l p)).2 (Go.Sx.M.Ro.p (Go.Sx.M.at' l p)).3)))) (List.drop (0 : Nat) (List.map Go.Proofs.Ytffcpblbdfjagaa.L1.roE (Go.Sx.M.unR (Go.Proofs.Ytffcpblbdfjagaa.L1.deR (List.take (List.length (List.map Go.Proofs.Ytffcpblbdfjagaa.L1.roE l)) (List.drop (0 : Nat) (Go.Sx.Blk.elems (Go.Sx.Blk.mk Bool.false (36 : Go.TypeId) (4 : Nat) Bool.true (List.map Go.Proofs.Ytffcpblbdfjagaa.L1.roE l)))))) (Go.Sx.M.Pf.mk (Go.Sx.M.Pf.a (Go.Sx.M.Ro.p (Go.Sx.M.at' l p))) (Go.Sx.M.Pf.b (Go.Sx.M.Ro.p (Go.Sx.M.at' l p))) (Go.Sx.M.Pf.len (Go.Sx.M.Ro.p (Go.Sx.M.at' l p))))))))) ∧ List.length (Go.Proofs.Ytffcpblbdfjagaa.L1.deR (List.take (List.length (List.map Go.Proofs.Ytffcpblbdfjagaa.L1.roE (Go.Sx.M.unR (Go.Proofs.Ytffcpblbdfjagaa.L1.deR (List.take (List.length (List.map Go.Proofs.Ytffcpblbdfjagaa.L1.roE l)) (List.drop (0 : Nat) (List.map Go.Proofs.Ytffcpblbdfjagaa.L1.roE l)))) (Go.Sx.M.Pf.mk (Go.Sx.M.Ro.p (Go.Sx.M.at' l p)).1 (Go.Sx.M.Ro.p (Go.Sx.M.at' l p)).2 (Go.Sx.M.Ro.p (Go.Sx.M.at' l p)).3)))) (List.drop (0 : Nat) (List.map Go.Proofs.Ytffcpblbdfjagaa.L1.roE (Go.Sx.M.unR (Go.Proofs.Ytffcpblbdfjagaa.L1.deR (List.take (List.length (List.map Go.Proofs.Ytffcpblbdfjagaa.L1.roE l)) (List.drop (0 : Nat) (Go.Sx.Blk.elems (Go.Sx.Blk.mk Bool.false (36 : Go.TypeId) (4 : Nat) Bool.true (List.map Go.Proofs.Ytffcpblbdfjagaa.L1.roE l)))))) (Go.Sx.M.Pf.mk (Go.Sx.M.Pf.a (Go.Sx.M.Ro.p (Go.Sx.M.at' l p))) (Go.Sx.M.Pf.b (Go.Sx.M.Ro.p (Go.Sx.M.at' l p))) (Go.Sx.M.Pf.len (Go.Sx.M.Ro.p (Go.Sx.M.at' l p))))))))) ≤ (1000000 : Nat) ∧ List.length (Go.Proofs.Ytffcpblbdfjagaa.L1.deR (List.take (List.length (List.map Go.Proofs.Ytffcpblbdfjagaa.L1.roE (Go.Sx.M.unR (Go.Proofs.Ytffcpblbdfjagaa.L1.deR (List.take (List.length (List.map Go.Proofs.Ytffcpblbdfjagaa.L1.roE l)) (List.drop (0 : Nat) (List.map Go.Proofs.Ytffcpblbdfjagaa.L1.roE l)))) (Go.Sx.M.Pf.mk (Go.Sx.M.Ro.p (Go.Sx.M.at' l p)).1 (Go.Sx.M.Ro.p (Go.Sx.M.at' l p)).2 (Go.Sx.M.Ro.p (Go.Sx.M.at' l p)).3)))) (List.drop (0 : Nat) (List.map Go.Proofs.Ytffcpblbdfjagaa.L1.roE (Go.Sx.M.unR (Go.Proofs.Ytffcpblbdfjagaa.L1.deR (List.take (List.length (List.map Go.Proofs.Ytffcpblbdfjagaa.L1.roE l)) (List.drop (0 : Nat) (Go.Sx.Blk.elems (Go.Sx.Blk.mk Bool.false (36 : Go.TypeId) (4 : Nat) Bool.true (List.map Go.Proofs.Ytffcpblbdfjagaa.L1.roE l)))))) (Go.Sx.M.Pf.mk (Go.Sx.M.Pf.a (Go.Sx.M.Ro.p (Go.Sx.M.at' l p))) (Go.Sx.M.Pf.b (Go.Sx.M.Ro.p (Go.Sx.M.at' l p))) (Go.Sx.M.Pf.len (Go.Sx.M.Ro.p (Go.Sx.M.at' l p))))))))) < N ∧ Go.Sx.inRange Go.IntKind.i64 ((1 : Int) + Go.Sx.M.chR (Go.Proofs.Ytffcpblbdfjagaa.L1.deR (List.take (List.length (List.map Go.Proofs.Ytffcpblbdfjagaa.L1.roE (Go.Sx.M.unR (Go.Proofs.Ytffcpblbdfjagaa.L1.deR (List.take (List.length (List.map Go.Proofs.Ytffcpblbdfjagaa.L1.roE l)) (List.drop (0 : Nat) (List.map Go.Proofs.Ytffcpblbdfjagaa.L1.roE l)))) (Go.Sx.M.Pf.mk (Go.Sx.M.Ro.p (Go.Sx.M.at' l p)).1 (Go.Sx.M.Ro.p (Go.Sx.M.at' l p)).2 (Go.Sx.M.Ro.p (Go.Sx.M.at' l p)).3)))) (List.drop (0 : Nat) (List.map Go.Proofs.Ytffcpblbdfjagaa.L1.roE (Go.Sx.M.unR (Go.Proofs.Ytffcpblbdfjagaa.L1.deR (List.take (List.length (List.map Go.Proofs.Ytffcpblbdfjagaa.L1.roE l)) (List.drop (0 : Nat) (Go.Sx.Blk.elems (Go.Sx.Blk.mk Bool.false (36 : Go.TypeId) (4 : Nat) Bool.true (List.map Go.Proofs.Ytffcpblbdfjagaa.L1.roE l)))))) (Go.Sx.M.Pf.mk (Go.Sx.M.Pf.a (Go.Sx.M.Ro.p (Go.Sx.M.at' l p))) (Go.Sx.M.Pf.b (Go.Sx.M.Ro.p (Go.Sx.M.at' l p))) (Go.Sx.M.Pf.len (Go.Sx.M.Ro.p (Go.Sx.M.at' l p)))))))))) ∧ (Decidable.decide ((1 : Int) + Go.Sx.M.chR (Go.Proofs.Ytffcpblbdfjagaa.L1.deR (List.take (List.length (List.map Go.Proofs.Ytffcpblbdfjagaa.L1.roE (Go.Sx.M.unR (Go.Proofs.Ytffcpblbdfjagaa.L1.deR (List.take (List.length (List.map Go.Proofs.Ytffcpblbdfjagaa.L1.roE l)) (List.drop (0 : Nat) (List.map Go.Proofs.Ytffcpblbdfjagaa.L1.roE l)))) (Go.Sx.M.Pf.mk (Go.Sx.M.Ro.p (Go.Sx.M.at' l p)).1 (Go.Sx.M.Ro.p (Go.Sx.M.at' l p)).2 (Go.Sx.M.Ro.p (Go.Sx.M.at' l p)).3)))) (List.drop (0 : Nat) (List.map Go.Proofs.Ytffcpblbdfjagaa.L1.roE (Go.Sx.M.unR (Go.Proofs.Ytffcpblbdfjagaa.L1.deR (List.take (List.length (List.map Go.Proofs.Ytffcpblbdfjagaa.L1.roE l)) (List.drop (0 : Nat) (Go.Sx.Blk.elems (Go.Sx.Blk.mk Bool.false (36 : Go.TypeId) (4 : Nat) Bool.true (List.map Go.Proofs.Ytffcpblbdfjagaa.L1.roE l)))))) (Go.Sx.M.Pf.mk (Go.Sx.M.Pf.a (Go.Sx.M.Ro.p (Go.Sx.M.at' l p))) (Go.Sx.M.Pf.b (Go.Sx.M.Ro.p (Go.Sx.M.at' l p))) (Go.Sx.M.Pf.len (Go.Sx.M.Ro.p (Go.Sx.M.at' l p))))))))) > Go.Proofs.Ytffcpblbdfjagaa.L1.chG l p) = Bool.true → Go.Sx.inRange Go.IntKind.i64 ((↑p : Int) + (1 : Int)) ∧ ∃ (p' : Nat), Go.Sx.St.mk [Go.Sx.AV.vsl (0 : Nat) (0 : Nat) (List.length (List.map Go.Proofs.Ytffcpblbdfjagaa.L1.roE l)), Go.Sx.AV.any, Go.Sx.AV.any, Go.Sx.AV.int Go.IntKind.i64 ((1 : Int) + Go.Sx.M.chR (Go.Proofs.Ytffcpblbdfjagaa.L1.deR (List.take (List.length (List.map Go.Proofs.Ytffcpblbdfjagaa.L1.roE (Go.Sx.M.unR (Go.Proofs.Ytffcpblbdfjagaa.L1.deR (List.take (List.length (List.map Go.Proofs.Ytffcpblbdfjagaa.L1.roE l)) (List.drop (0 : Nat) (List.map Go.Proofs.Ytffcpblbdfjagaa.L1.roE l)))) (Go.Sx.M.Pf.mk (Go.Sx.M.Ro.p (Go.Sx.M.at' l p)).1 (Go.Sx.M.Ro.p (Go.Sx.M.at' l p)).2 (Go.Sx.M.Ro.p (Go.Sx.M.at' l p)).3)))) (List.drop (0 : Nat) (List.map Go.Proofs.Ytffcpblbdfjagaa.L1.roE (Go.Sx.M.unR (Go.Proofs.Ytffcpblbdfjagaa.L1.deR (List.take (List.length (List.map Go.Proofs.Ytffcpblbdfjagaa.L1.roE l)) (List.drop (0 : Nat) (Go.Sx.Blk.elems (Go.Sx.Blk.mk Bool.false (36 : Go.TypeId) (4 : Nat) Bool.true (List.map Go.Proofs.Ytffcpblbdfjagaa.L1.roE l)))))) (Go.Sx.M.Pf.mk (Go.Sx.M.Pf.a (Go.Sx.M.Ro.p (Go.Sx.M.at' l p))) (Go.Sx.M.Pf.b (Go.Sx.M.Ro.p (Go.Sx.M.at' l p))) (Go.Sx.M.Pf.len (Go.Sx.M.Ro.p (Go.Sx.M.at' l p)))))))))), Go.Sx.AV.int Go.IntKind.i64 ((↑p : Int) + (1 : Int)), Go.Sx.AV.any, Go.Sx.AV.any, Go.Sx.AV.any, Go.Sx.AV.any, Go.Sx.AV.any, Go.Sx.AV.any, Go.Sx.AV.any, Go.Sx.AV.any, Go.Sx.AV.any, Go.Sx.AV.any, Go.Sx.AV.any, Go.Sx.AV.any, Go.Sx.AV.any, Go.Sx.AV.any, Go.Sx.AV.any, Go.Sx.AV.any, Go.Sx.AV.any, Go.Sx.AV.any, Go.Sx.AV.any, Go.Sx.AV.any, Go.Sx.AV.any] [Option.some (Go.Sx.Blk.mk Bool.false (36 : Go.TypeId) (4 : Nat) Bool.true (List.map Go.Proofs.Ytffcpblbdfjagaa.L1.roE l))] = Go.Proofs.Ytffcpblbdfjagaa.L1.chSt l p' ∧ Nat.le p' (List.length l) ∧ List.length l + (1 : Nat) - p' < List.length l + (1 : Nat) - p) ∧ (Decidable.decide ((1 : Int) + Go.Sx.M.chR (Go.Proofs.Ytffcpblbdfjagaa.L1.deR (List.take (List.length (List.map Go.Proofs.Ytffcpblbdfjagaa.L1.roE (Go.Sx.M.unR (Go.Proofs.Ytffcpblbdfjagaa.L1.deR (List.take (List.length (List.map Go.Proofs.Ytffcpblbdfjagaa.L1.roE l)) (List.drop (0 : Nat) (List.map Go.Proofs.Ytffcpblbdfjagaa.L1.roE l)))) (Go.Sx.M.Pf.mk (Go.Sx.M.Ro.p (Go.Sx.M.at' l p)).1 (Go.Sx.M.Ro.p (Go.Sx.M.at' l p)).2 (Go.Sx.M.Ro.p (Go.Sx.M.at' l p)).3)))) (List.drop (0 : Nat) (List.map Go.Proofs.Ytffcpblbdfjagaa.L1.roE (Go.Sx.M.unR (Go.Proofs.Ytffcpblbdfjagaa.L1.deR (List.take (List.length (List.map Go.Proofs.Ytffcpblbdfjagaa.L1.roE l)) (List.drop (0 : Nat) (Go.Sx.Blk.elems (Go.Sx.Blk.mk Bool.false (36 : Go.TypeId) (4 : Nat) Bool.true (List.map Go.Proofs.Ytffcpblbdfjagaa.L1.roE l)))))) (Go.Sx.M.Pf.mk (Go.Sx.M.Pf.a (Go.Sx.M.Ro.p (Go.Sx.M.at' l p))) (Go.Sx.M.Pf.b (Go.Sx.M.Ro.p (Go.Sx.M.at' l p))) (Go.Sx.M.Pf.len (Go.Sx.M.Ro.p (Go.Sx.M.at' l p))))))))) > Go.Proofs.Ytffcpblbdfjagaa.L1.chG l p) = Bool.false → Go.Sx.inRange Go.IntKind.i64 ((↑p : Int) + (1 : Int)) ∧ ∃ (p' : Nat), Go.Sx.St.mk [Go.Sx.AV.vsl (0 : Nat) (0 : Nat) (List.length (List.map Go.Proofs.Ytffcpblbdfjagaa.L1.roE l)), Go.Sx.AV.any, Go.Sx.AV.any, Go.Sx.AV.int Go.IntKind.i64 (Go.Proofs.Ytffcpblbdfjagaa.L1.chG l p), Go.Sx.AV.int Go.IntKind.i64 ((↑p : Int) + (1 : Int)), Go.Sx.AV.any, Go.Sx.AV.any, Go.Sx.AV.any, Go.Sx.AV.any, Go.Sx.AV.any, Go.Sx.AV.any, Go.Sx.AV.any, Go.Sx.AV.any, Go.Sx.AV.any, Go.Sx.AV.any, Go.Sx.AV.any, Go.Sx.AV.any, Go.Sx.AV.any, Go.Sx.AV.any, Go.Sx.AV.any, Go.Sx.AV.any, Go.Sx.AV.any, Go.Sx.AV.any, Go.Sx.AV.any, Go.Sx.AV.any, Go.Sx.AV.any] [Option.some (Go.Sx.Blk.mk Bool.false (36 : Go.TypeId) (4 : Nat) Bool.true (List.map Go.Proofs.Ytffcpblbdfjagaa.L1.roE l))] = Go.Proofs.Ytffcpblbdfjagaa.L1.chSt l p' ∧ Nat.le p' (List.length l) ∧ List.length l + (1 : Nat) - p' < List.length l + (1 : Nat) - p)) ∧ (Decidable.decide ((↑p : Int) < (↑(List.length (List.map Go.Proofs.Ytffcpblbdfjagaa.L1.roE l)) : Int)) = Bool.false → Go.Sx.AV.int Go.IntKind.i64 (Go.Proofs.Ytffcpblbdfjagaa.L1.chG l p) = r)) := by kernel_rfl

theorem chn_ok : ∀ N : Nat, SpecOK Try.prog 37 (genSpec [pRefR] (chnF N))
  | 0 => by
    refine genSpec_ok none_ok fun args R hF => ?_
    unfold chnF at hF
    split at hF
    · exact absurd hF.2.2.1 (Nat.not_lt_zero _)
    · exact hF.elim
  | N + 1 => by
    have hCs : ∀ e ∈ chnCs N, SpecOK Try.prog e.1 e.2 := by
      intro e he
      simp only [chnCs, List.mem_cons, List.not_mem_nil, or_false] at he
      rcases he with rfl | rfl
      · exact chn_ok N
      · exact rrunder_ok
    refine genSpec_ok (evFn_ok (run_ok (l := chnCs N) hCs mixed noNG) mixed noNG) fun args R hF => ?_
    unfold chnF at hF
    split at hF
    · rename_i r_l
      obtain ⟨hr_l, hl, hN, hF⟩ := hF
      generalize deR r_l = l at hr_l hl hN hF
      subst hr_l
      refine ⟨_, hF, rfl, chH l, ?_⟩
      show evFn (run (chnCs N) Try.prog) Try.prog _ [.vsl 0 0 (l.map roE).length] [some ⟨false, 36, 4, true, (l.map roE)⟩] _ _
      rw [chn_run]
      simp only [whole_row, deR_map]
      refine ⟨⟨rfl, Nat.zero_le _⟩, ?_⟩
      intro p hp0
      have hp0 : p ≤ l.length := hp0
      refine ⟨fun hlt => ?_, fun hge => ?_⟩
      · have hp : p < l.length := by simp only [decide_eq_true_eq, List.length_map] at hlt; omega
        have B : 0 ≤ (p : Int) ∧ (p : Int) < ((l.map roE).length : Int) := by rw [List.length_map]; omega
        have hu := unR_lt (at_mem hp)
        have hc := chR_le (unR l (at' l p).p)
        have hs := chG_snoc hp
        refine ⟨B, read_rows B.1 B.2 (rr_p _), by omega, trivial, hl, by omega, trivial, Nat.le_trans (Nat.le_of_lt hu) hl, Nat.lt_of_lt_of_le hu (Nat.le_of_lt_succ hN), (inR (by omega) (by omega) : inRange .i64 (1 + chR (unR l (at' l p).p))), fun h => ?_, fun h => ?_⟩
        · have h : 1 + chR (unR l (at' l p).p) > chG l p := of_decide_eq_true h
          rw [if_pos h] at hs
          exact ⟨inR (by omega) (by omega), p + 1, by unfold chSt; rw [hs]; rfl, hp, by omega⟩
        · have h : ¬ 1 + chR (unR l (at' l p).p) > chG l p := of_decide_eq_false h
          rw [if_neg h] at hs
          exact ⟨inR (by omega) (by omega), p + 1, by unfold chSt; rw [hs]; rfl, hp, by omega⟩
      · have hp : p = l.length := by simp only [decide_eq_false_iff_not, List.length_map] at hge; omega
        subst hp
        rw [chG_end]
    · exact hF.elim

theorem rrchain_ok : SpecOK Try.prog 37 (genSpec [pRefR] (chnF 1000001)) := chn_ok _

end Go.Proofs.Ytffcpblbdfjagaa.L1
