/-
  Layer 6: the contract of the program's Chain: the stack of those that are open.
-/
import Derived.Test.YtffcpblbdfjagaaL6U
namespace Go.Proofs.Ytffcpblbdfjagaa.L1
open Go.Sx Go.Sx.M

theorem pf_whole (x : Pf) : partOf Try.prog 27 (pfE x).cells 0 = some (pfE x) := by kernel_rfl

/-- The most that were open in the first n steps. -/
def mxG (l : List Ro) : Nat → Int
  | 0 => 0
  | n + 1 => if ((skR l (n + 1)).length : Int) > mxG l n then ((skR l (n + 1)).length : Int) else mxG l n

theorem mxG_spec (l : List Ro) : ∀ n, 0 ≤ mxG l n ∧ (∀ i, i < n → ((opR l i).length : Int) ≤ mxG l n) ∧ (mxG l n = 0 ∨ ∃ i, i < n ∧ mxG l n = ((opR l i).length : Int))
  | 0 => ⟨Int.le_refl _, fun i hi => by omega, .inl rfl⟩
  | n + 1 => by
    obtain ⟨h0, h1, h2⟩ := mxG_spec l n
    have e : (skR l (n + 1)).length = (opR l n).length := by unfold skR; rw [if_neg (by omega), List.length_map, Nat.add_sub_cancel]
    unfold mxG
    rw [e]
    split
    · refine ⟨by omega, fun i hi => ?_, .inr ⟨n, by omega, rfl⟩⟩
      rcases Nat.lt_or_eq_of_le (Nat.le_of_lt_succ hi) with h | rfl
      · have := h1 i h; omega
      · omega
    · refine ⟨h0, fun i hi => ?_, ?_⟩
      · rcases Nat.lt_or_eq_of_le (Nat.le_of_lt_succ hi) with h | rfl
        · exact h1 i h
        · omega
      · rcases h2 with h2 | ⟨i, hi, h2⟩
        · exact .inl h2
        · exact .inr ⟨i, by omega, h2⟩

theorem mxG_le {w : Int} {l : List Ro} (h : TB w l) {n : Nat} (hn : n ≤ l.length) : 0 ≤ mxG l n ∧ mxG l n ≤ 256 := by
  obtain ⟨h0, _, h2⟩ := mxG_spec l n
  refine ⟨h0, ?_⟩
  rcases h2 with h2 | ⟨i, hi, h2⟩
  · omega
  · have := opR_le h (show i < l.length by omega)
    have := h.most
    omega

def gcSt (F : List Pf → List AV) (l : List Ro) (p : Nat) : St :=
  ⟨[.any, .any, .any, .vsl 1 0 (skR l p).length, .int .i64 (mxG l p), .any, .any, .vsl 0 0 (l.map roE).length, .int .i64 (l.map roE).length, .int .i64 p, .any, .any, .any, .any, .any, .any, .any, .any, .any, .any, .any, .any, .any, .any, .any, .any, .any, .any, .any, .any, .any, .any, .any, .any, .any, .any, .any, .any, .any, .any, .any, .any, .any, .any], [some ⟨false, 29, 4, true, l.map roE⟩, some ⟨true, 27, 3, true, F (skR l p)⟩]⟩
def gcSt2 (F : List Pf → List AV) (l : List Ro) (p k : Nat) : St :=
  ⟨[.any, .any, .any, .vsl 1 0 k, .int .i64 (mxG l p), .any, .ptr 2 0 0 true, .vsl 0 0 (l.map roE).length, .int .i64 (l.map roE).length, .int .i64 p, .any, .any, .any, .any, .any, .any, .any, .any, .any, .any, .any, .any, .any, .any, .any, .any, .any, .any, .any, .any, .any, .any, .any, .any, .any, .any, .any, .any, .any, .any, .any, .any, .any, .any], [some ⟨false, 29, 4, true, l.map roE⟩, some ⟨true, 27, 3, true, F (skR l p)⟩, some ⟨true, 29, 4, true, [roE (at' l p)]⟩]⟩
def gcM0 : Modes := ⟨[0, 0, 0, 1, 2, 0, 0, 1, 1, 2, 0, 0, 0, 0, 0, 0, 0, 0, 0, 0, 0, 0, 0, 0, 0, 0, 0, 0, 0, 0, 0, 0, 0, 0, 0, 0, 0, 0, 0, 0, 0, 0, 0, 0], [], [], [], [(3, 27, 3)]⟩
def gcM : Modes := ⟨[0, 0, 0, 1, 1, 0, 0, 1, 1, 1, 0, 0, 0, 0, 0, 0, 0, 0, 0, 0, 0, 0, 0, 0, 0, 0, 0, 0, 0, 0, 0, 0, 0, 0, 0, 0, 0, 0, 0, 0, 0, 0, 0, 0], [], [], [], []⟩
def gcM' : Modes := ⟨[0, 0, 0, 0, 1, 0, 0, 0, 0, 0, 0, 0, 0, 0, 0, 0, 0, 0, 0, 0, 0, 0, 0, 0, 0, 0, 0, 0, 0, 0, 0, 0, 0, 0, 0, 0, 0, 0, 0, 0, 0, 0, 0, 0], [], [], [], []⟩
def gcN : Modes := ⟨[0, 0, 0, 1, 1, 0, 1, 1, 1, 1, 0, 0, 0, 0, 0, 0, 0, 0, 0, 0, 0, 0, 0, 0, 0, 0, 0, 0, 0, 0, 0, 0, 0, 0, 0, 0, 0, 0, 0, 0, 0, 0, 0, 0], [], [], [], []⟩
def gcI2 (l : List Ro) (p k : Nat) : Prop := k ≤ (skR l p).length ∧ ∀ t, k ≤ t → t < (skR l p).length → cvP (at' (skR l p) t) (at' l p).p = false
def gcH (F : List Pf → List AV) (l : List Ro) : List Hint := [.linv _ 0 (gcSt F l) (fun p => p ≤ l.length) (fun p => l.length + 1 - p) gcM0 gcM gcM' (fun _ => []) fun p =>
  [.fork [.dy, .cell (roE (at' l p)), .linv _ (skR l p).length (gcSt2 F l p) (gcI2 l p) (fun k => k) gcN gcN gcN (fun _ => [.rows (F (skR l (p + 1))), .nw]) fun k =>
    [.fork [.nw, .ix (k - 1), .cell (pfE (at' (skR l p) (k - 1))), .fork [.nw, .ix (k - 1)] []] []]] []]]

noncomputable def gchain6Cs : List (FuncId × Sx.Spec) := [(53, genSpec [none, none] coversF)]

theorem gchain6_run (l : List Ro) (F : List Pf → List AV) (r : AV) : run gchain6Cs Try.prog 36 [.vsl 0 0 (l.map roE).length] [some ⟨false, (pRo.getD (0, 0)).1, (pRo.getD (0, 0)).2, true, (l.map roE)⟩] (gcH F l) (yields (.v r)) =
    ((Go.Sx.St.mk [Go.Sx.AV.any, Go.Sx.AV.any, Go.Sx.AV.any, Go.Sx.AV.vsl (List.length [Option.some (Go.Sx.Blk.mk Bool.false (nat_lit 29) (4 : Nat) Bool.true (List.map Go.Proofs.Ytffcpblbdfjagaa.L1.roE l))]) (0 : Nat) (0 : Nat), Go.Sx.AV.int Go.IntKind.i64 (0 : Int), Go.Sx.AV.any, Go.Sx.AV.any, Go.Sx.AV.vsl (0 : Nat) (0 : Nat) (List.length (List.map Go.Proofs.Ytffcpblbdfjagaa.L1.roE l)), Go.Sx.AV.int Go.IntKind.i64 (↑(List.length (List.map Go.Proofs.Ytffcpblbdfjagaa.L1.roE l)) : Int), Go.Sx.AV.int Go.IntKind.i64 (0 : Int), Go.Sx.AV.any, Go.Sx.AV.any, Go.Sx.AV.any, Go.Sx.AV.any, Go.Sx.AV.any, Go.Sx.AV.any, Go.Sx.AV.any, Go.Sx.AV.any, Go.Sx.AV.any, Go.Sx.AV.any, Go.Sx.AV.any, Go.Sx.AV.any, Go.Sx.AV.any, Go.Sx.AV.any, Go.Sx.AV.any, Go.Sx.AV.any, Go.Sx.AV.any, Go.Sx.AV.any, Go.Sx.AV.any, Go.Sx.AV.any, Go.Sx.AV.any, Go.Sx.AV.any, Go.Sx.AV.any, Go.Sx.AV.any, Go.Sx.AV.any, Go.Sx.AV.any, Go.Sx.AV.any, Go.Sx.AV.any, Go.Sx.AV.any, Go.Sx.AV.any, Go.Sx.AV.any, Go.Sx.AV.any, Go.Sx.AV.any, Go.Sx.AV.any] ([Option.some (Go.Sx.Blk.mk Bool.false (nat_lit 29) (4 : Nat) Bool.true (List.map Go.Proofs.Ytffcpblbdfjagaa.L1.roE l))] ++ [Option.some (Go.Sx.Blk.mk Bool.true (27 : Go.TypeId) (3 : Nat) Bool.true [])]) = Go.Proofs.Ytffcpblbdfjagaa.L1.gcSt F l (0 : Nat) ∧ Nat.le (0 : Nat) (List.length l)) ∧ ∀ (p : Nat), Nat.le p (List.length l) → (Decidable.decide ((↑p : Int) < (↑(List.length (List.map Go.Proofs.Ytffcpblbdfjagaa.L1.roE l)) : Int)) = Bool.true → ((0 : Int) ≤ (↑p : Int) ∧ (↑p : Int) < (↑(List.length (List.map Go.Proofs.Ytffcpblbdfjagaa.L1.roE l)) : Int)) ∧ Go.Sx.Blk.read Go.Proofs.Try.prog (Go.Sx.Blk.mk Bool.false (29 : Go.TypeId) (4 : Nat) Bool.true (List.map Go.Proofs.Ytffcpblbdfjagaa.L1.roE l)) (29 : Nat) ((0 : Nat) + Int.toNat (↑p : Int)) (0 : Nat) = Option.some (Go.Sx.AV.agg [Go.Sx.AV.w64 (Go.Sx.M.Ro.p (Go.Sx.M.at' l p)).1, Go.Sx.AV.w64 (Go.Sx.M.Ro.p (Go.Sx.M.at' l p)).2, Go.Sx.AV.int Go.IntKind.i64 (Go.Sx.M.Ro.p (Go.Sx.M.at' l p)).3, Go.Sx.AV.int Go.IntKind.i64 (Go.Sx.M.at' l p).2]) ∧ (Go.Sx.St.mk [Go.Sx.AV.any, Go.Sx.AV.any, Go.Sx.AV.any, Go.Sx.AV.vsl ((0 : Nat) + (1 : Nat)) (0 : Nat) (List.length (Go.Sx.M.skR l p)), Go.Sx.AV.int Go.IntKind.i64 (Go.Proofs.Ytffcpblbdfjagaa.L1.mxG l p), Go.Sx.AV.any, Go.Sx.AV.ptr ((0 : Nat) + (1 : Nat) + (1 : Nat)) (0 : Nat) (0 : Nat) Bool.true, Go.Sx.AV.vsl (0 : Nat) (0 : Nat) (List.length (List.map Go.Proofs.Ytffcpblbdfjagaa.L1.roE l)), Go.Sx.AV.int Go.IntKind.i64 (↑(List.length (List.map Go.Proofs.Ytffcpblbdfjagaa.L1.roE l)) : Int), Go.Sx.AV.int Go.IntKind.i64 (↑p : Int), Go.Sx.AV.any, Go.Sx.AV.any, Go.Sx.AV.any, Go.Sx.AV.any, Go.Sx.AV.any, Go.Sx.AV.any, Go.Sx.AV.any, Go.Sx.AV.any, Go.Sx.AV.any, Go.Sx.AV.any, Go.Sx.AV.any, Go.Sx.AV.any, Go.Sx.AV.any, Go.Sx.AV.any, Go.Sx.AV.any, Go.Sx.AV.any, Go.Sx.AV.any, Go.Sx.AV.any, Go.Sx.AV.any, Go.Sx.AV.any, Go.Sx.AV.any, Go.Sx.AV.any, Go.Sx.AV.any, Go.Sx.AV.any, Go.Sx.AV.any, Go.Sx.AV.any, Go.Sx.AV.any, Go.Sx.AV.any, Go.Sx.AV.any, Go.Sx.AV.any, Go.Sx.AV.any, Go.Sx.AV.any, Go.Sx.AV.any, Go.Sx.AV.any] [Option.some (Go.Sx.Blk.mk Bool.false (29 : Go.TypeId) (4 : Nat) Bool.true (List.map Go.Proofs.Ytffcpblbdfjagaa.L1.roE l)), Option.some (Go.Sx.Blk.mk Bool.true (27 : Go.TypeId) (3 : Nat) Bool.true (F (Go.Sx.M.skR l p))), Option.some (Go.Sx.Blk.write (Go.Sx.Blk.mk Bool.true (29 : Nat) (4 : Nat) Bool.true [Go.Sx.AV.agg [Go.Sx.AV.lit (Go.Value.int Go.IntKind.u64 (0 : Int)), Go.Sx.AV.lit (Go.Value.int Go.IntKind.u64 (0 : Int)), Go.Sx.AV.lit (Go.Value.int Go.IntKind.i64 (0 : Int)), Go.Sx.AV.lit (Go.Value.int Go.IntKind.i64 (0 : Int))]]) (0 : Nat) (0 : Nat) (Go.Sx.AV.agg [Go.Sx.AV.w64 (Go.Sx.M.Ro.p (Go.Sx.M.at' l p)).1, Go.Sx.AV.w64 (Go.Sx.M.Ro.p (Go.Sx.M.at' l p)).2, Go.Sx.AV.int Go.IntKind.i64 (Go.Sx.M.Ro.p (Go.Sx.M.at' l p)).3, Go.Sx.AV.int Go.IntKind.i64 (Go.Sx.M.at' l p).2]))] = Go.Proofs.Ytffcpblbdfjagaa.L1.gcSt2 F l p (List.length (Go.Sx.M.skR l p)) ∧ Go.Proofs.Ytffcpblbdfjagaa.L1.gcI2 l p (List.length (Go.Sx.M.skR l p))) ∧ ∀ (p_1 : Nat), Go.Proofs.Ytffcpblbdfjagaa.L1.gcI2 l p p_1 → (Decidable.decide ((↑p_1 : Int) > (0 : Int)) = Bool.true → Go.Sx.inRange Go.IntKind.i64 ((↑p_1 : Int) - (1 : Int)) ∧ (↑p_1 : Int) - (1 : Int) = (↑(p_1 - (1 : Nat)) : Int) ∧ p_1 - (1 : Nat) < p_1 ∧ Go.Sx.Blk.read Go.Proofs.Try.prog (Go.Sx.Blk.mk Bool.true (27 : Go.TypeId) (3 : Nat) Bool.true (F (Go.Sx.M.skR l p))) (27 : Nat) ((0 : Nat) + (p_1 - (1 : Nat))) (0 : Nat) = Option.some (Go.Sx.AV.agg [Go.Sx.AV.w64 (Go.Sx.M.at' (Go.Sx.M.skR l p) (p_1 - (1 : Nat))).1, Go.Sx.AV.w64 (Go.Sx.M.at' (Go.Sx.M.skR l p) (p_1 - (1 : Nat))).2, Go.Sx.AV.int Go.IntKind.i64 (Go.Sx.M.at' (Go.Sx.M.skR l p) (p_1 - (1 : Nat))).3]) ∧ ((!(Decidable.decide ((Go.Sx.M.at' (Go.Sx.M.skR l p) (p_1 - (1 : Nat))).3 ≤ (Go.Sx.M.Ro.p (Go.Sx.M.at' l p)).3) && Go.Proofs.Ytffcpblbdfjagaa.L1.matchB (Go.Sx.M.at' (Go.Sx.M.skR l p) (p_1 - (1 : Nat))).1 (Go.Sx.M.at' (Go.Sx.M.skR l p) (p_1 - (1 : Nat))).2 (Go.Sx.M.at' (Go.Sx.M.skR l p) (p_1 - (1 : Nat))).3 (Go.Sx.M.Ro.p (Go.Sx.M.at' l p)).1 (Go.Sx.M.Ro.p (Go.Sx.M.at' l p)).2)) = Bool.true → Go.Sx.inRange Go.IntKind.i64 ((↑p_1 : Int) - (1 : Int)) ∧ (↑p_1 : Int) - (1 : Int) = (↑(p_1 - (1 : Nat)) : Int) ∧ p_1 - (1 : Nat) < p_1 + (1 : Nat) ∧ ∃ (p' : Nat), Go.Sx.St.mk [Go.Sx.AV.any, Go.Sx.AV.any, Go.Sx.AV.any, Go.Sx.AV.vsl ((0 : Nat) + (1 : Nat)) ((0 : Nat) + (0 : Nat)) (p_1 - (1 : Nat) - (0 : Nat)), Go.Sx.AV.int Go.IntKind.i64 (Go.Proofs.Ytffcpblbdfjagaa.L1.mxG l p), Go.Sx.AV.any, Go.Sx.AV.ptr ((0 : Nat) + (1 : Nat) + (1 : Nat)) (0 : Nat) (0 : Nat) Bool.true, Go.Sx.AV.vsl (0 : Nat) (0 : Nat) (List.length (List.map Go.Proofs.Ytffcpblbdfjagaa.L1.roE l)), Go.Sx.AV.int Go.IntKind.i64 (↑(List.length (List.map Go.Proofs.Ytffcpblbdfjagaa.L1.roE l)) : Int), Go.Sx.AV.int Go.IntKind.i64 (↑p : Int), Go.Sx.AV.any, Go.Sx.AV.any, Go.Sx.AV.any, Go.Sx.AV.any, Go.Sx.AV.any, Go.Sx.AV.any, Go.Sx.AV.any, Go.Sx.AV.any, Go.Sx.AV.any, Go.Sx.AV.any, Go.Sx.AV.any, Go.Sx.AV.any, Go.Sx.AV.any, Go.Sx.AV.any, Go.Sx.AV.any, Go.Sx.AV.any, Go.Sx.AV.any, Go.Sx.AV.any, Go.Sx.AV.any, Go.Sx.AV.any, Go.Sx.AV.any, Go.Sx.AV.any, Go.Sx.AV.any, Go.Sx.AV.any, Go.Sx.AV.any, Go.Sx.AV.any, Go.Sx.AV.any, Go.Sx.AV.any, Go.Sx.AV.any, Go.Sx.AV.any, Go.Sx.AV.any, Go.Sx.AV.any, Go.Sx.AV.any, Go.Sx.AV.any] [Option.some (Go.Sx.Blk.mk Bool.false (29 : Go.TypeId) (4 : Nat) Bool.true (List.map Go.Proofs.Ytffcpblbdfjagaa.L1.roE l)), Option.some (Go.Sx.Blk.mk Bool.true (27 : Go.TypeId) (3 : Nat) Bool.true (F (Go.Sx.M.skR l p))), Option.some (Go.Sx.Blk.mk Bool.true (29 : Go.TypeId) (4 : Nat) Bool.true [Go.Sx.AV.agg [Go.Sx.AV.w64 (Go.Sx.M.Ro.p (Go.Sx.M.at' l p)).1, Go.Sx.AV.w64 (Go.Sx.M.Ro.p (Go.Sx.M.at' l p)).2, Go.Sx.AV.int Go.IntKind.i64 (Go.Sx.M.Ro.p (Go.Sx.M.at' l p)).3, Go.Sx.AV.int Go.IntKind.i64 (Go.Sx.M.at' l p).2]])] = Go.Proofs.Ytffcpblbdfjagaa.L1.gcSt2 F l p p' ∧ Go.Proofs.Ytffcpblbdfjagaa.L1.gcI2 l p p' ∧ p' < p_1) ∧ ((!(Decidable.decide ((Go.Sx.M.at' (Go.Sx.M.skR l p) (p_1 - (1 : Nat))).3 ≤ (Go.Sx.M.Ro.p (Go.Sx.M.at' l p)).3) && Go.Proofs.Ytffcpblbdfjagaa.L1.matchB (Go.Sx.M.at' (Go.Sx.M.skR l p) (p_1 - (1 : Nat))).1 (Go.Sx.M.at' (Go.Sx.M.skR l p) (p_1 - (1 : Nat))).2 (Go.Sx.M.at' (Go.Sx.M.skR l p) (p_1 - (1 : Nat))).3 (Go.Sx.M.Ro.p (Go.Sx.M.at' l p)).1 (Go.Sx.M.Ro.p (Go.Sx.M.at' l p)).2)) = Bool.false → ((p_1 + (1 : Nat)) * (24 : Nat) ≤ (140737488355328 : Nat) ∧ p_1 + (1 : Nat) ≤ (9223372036854775807 : Nat) ∧ (0 : Nat) + (1 : Nat) ≤ List.length [Go.Sx.AV.agg [Go.Sx.AV.w64 (Go.Sx.M.Ro.p (Go.Sx.M.at' l p)).1, Go.Sx.AV.w64 (Go.Sx.M.Ro.p (Go.Sx.M.at' l p)).2, Go.Sx.AV.int Go.IntKind.i64 (Go.Sx.M.Ro.p (Go.Sx.M.at' l p)).3]] ∧ p_1 ≤ List.length (F (Go.Sx.M.skR l p))) ∧ List.take p_1 (F (Go.Sx.M.skR l p)) ++ [Go.Sx.AV.agg [Go.Sx.AV.w64 (Go.Sx.M.Ro.p (Go.Sx.M.at' l p)).1, Go.Sx.AV.w64 (Go.Sx.M.Ro.p (Go.Sx.M.at' l p)).2, Go.Sx.AV.int Go.IntKind.i64 (Go.Sx.M.Ro.p (Go.Sx.M.at' l p)).3]] = F (Go.Sx.M.skR l (p + (1 : Nat))) ∧ Go.Sx.inRange Go.IntKind.i64 ((↑p : Int) + (1 : Int)) ∧ ∃ (p' : Nat), Go.Sx.St.mk [Go.Sx.AV.any, Go.Sx.AV.any, Go.Sx.AV.any, Go.Sx.AV.vsl ((0 : Nat) + (1 : Nat)) (0 : Nat) (p_1 + (1 : Nat)), Go.Sx.AV.int Go.IntKind.i64 (if (↑(p_1 + (1 : Nat)) : Int) > Go.Proofs.Ytffcpblbdfjagaa.L1.mxG l p then (↑(p_1 + (1 : Nat)) : Int) else Go.Proofs.Ytffcpblbdfjagaa.L1.mxG l p), Go.Sx.AV.any, Go.Sx.AV.any, Go.Sx.AV.vsl (0 : Nat) (0 : Nat) (List.length (List.map Go.Proofs.Ytffcpblbdfjagaa.L1.roE l)), Go.Sx.AV.int Go.IntKind.i64 (↑(List.length (List.map Go.Proofs.Ytffcpblbdfjagaa.L1.roE l)) : Int), Go.Sx.AV.int Go.IntKind.i64 ((↑p : Int) + (1 : Int)), Go.Sx.AV.any, Go.Sx.AV.any, Go.Sx.AV.any, Go.Sx.AV.any, Go.Sx.AV.any, Go.Sx.AV.any, Go.Sx.AV.any, Go.Sx.AV.any, Go.Sx.AV.any, Go.Sx.AV.any, Go.Sx.AV.any, Go.Sx.AV.any, Go.Sx.AV.any, Go.Sx.AV.any, Go.Sx.AV.any, Go.Sx.AV.any, Go.Sx.AV.any, Go.Sx.AV.any, Go.Sx.AV.any, Go.Sx.AV.any, Go.Sx.AV.any, Go.Sx.AV.any, Go.Sx.AV.any, Go.Sx.AV.any, Go.Sx.AV.any, Go.Sx.AV.any, Go.Sx.AV.any, Go.Sx.AV.any, Go.Sx.AV.any, Go.Sx.AV.any, Go.Sx.AV.any, Go.Sx.AV.any, Go.Sx.AV.any, Go.Sx.AV.any] [Option.some (Go.Sx.Blk.mk Bool.false (29 : Go.TypeId) (4 : Nat) Bool.true (List.map Go.Proofs.Ytffcpblbdfjagaa.L1.roE l)), Option.some (Go.Sx.Blk.mk Bool.true (27 : Nat) (3 : Nat) Bool.true (F (Go.Sx.M.skR l (p + (1 : Nat)))))] = Go.Proofs.Ytffcpblbdfjagaa.L1.gcSt F l p' ∧ Nat.le p' (List.length l) ∧ List.length l + (1 : Nat) - p' < List.length l + (1 : Nat) - p)) ∧ (Decidable.decide ((↑p_1 : Int) > (0 : Int)) = Bool.false → ((p_1 + (1 : Nat)) * (24 : Nat) ≤ (140737488355328 : Nat) ∧ p_1 + (1 : Nat) ≤ (9223372036854775807 : Nat) ∧ (0 : Nat) + (1 : Nat) ≤ List.length [Go.Sx.AV.agg [Go.Sx.AV.w64 (Go.Sx.M.Ro.p (Go.Sx.M.at' l p)).1, Go.Sx.AV.w64 (Go.Sx.M.Ro.p (Go.Sx.M.at' l p)).2, Go.Sx.AV.int Go.IntKind.i64 (Go.Sx.M.Ro.p (Go.Sx.M.at' l p)).3]] ∧ p_1 ≤ List.length (F (Go.Sx.M.skR l p))) ∧ List.take p_1 (F (Go.Sx.M.skR l p)) ++ [Go.Sx.AV.agg [Go.Sx.AV.w64 (Go.Sx.M.Ro.p (Go.Sx.M.at' l p)).1, Go.Sx.AV.w64 (Go.Sx.M.Ro.p (Go.Sx.M.at' l p)).2, Go.Sx.AV.int Go.IntKind.i64 (Go.Sx.M.Ro.p (Go.Sx.M.at' l p)).3]] = F (Go.Sx.M.skR l (p + (1 : Nat))) ∧ Go.Sx.inRange Go.IntKind.i64 ((↑p : Int) + (1 : Int)) ∧ ∃ (p' : Nat), Go.Sx.St.mk [Go.Sx.AV.any, Go.Sx.AV.any, Go.Sx.AV.any, Go.Sx.AV.vsl ((0 : Nat) + (1 : Nat)) (0 : Nat) (p_1 + (1 : Nat)), Go.Sx.AV.int Go.IntKind.i64 (if (↑(p_1 + (1 : Nat)) : Int) > Go.Proofs.Ytffcpblbdfjagaa.L1.mxG l p then (↑(p_1 + (1 : Nat)) : Int) else Go.Proofs.Ytffcpblbdfjagaa.L1.mxG l p), Go.Sx.AV.any, Go.Sx.AV.any, Go.Sx.AV.vsl (0 : Nat) (0 : Nat) (List.length (List.map Go.Proofs.Ytffcpblbdfjagaa.L1.roE l)), Go.Sx.AV.int Go.IntKind.i64 (↑(List.length (List.map Go.Proofs.Ytffcpblbdfjagaa.L1.roE l)) : Int), Go.Sx.AV.int Go.IntKind.i64 ((↑p : Int) + (1 : Int)), Go.Sx.AV.any, Go.Sx.AV.any, Go.Sx.AV.any, Go.Sx.AV.any, Go.Sx.AV.any, Go.Sx.AV.any, Go.Sx.AV.any, Go.Sx.AV.any, Go.Sx.AV.any, Go.Sx.AV.any, Go.Sx.AV.any, Go.Sx.AV.any, Go.Sx.AV.any, Go.Sx.AV.any, Go.Sx.AV.any, Go.Sx.AV.any, Go.Sx.AV.any, Go.Sx.AV.any, Go.Sx.AV.any, Go.Sx.AV.any, Go.Sx.AV.any, Go.Sx.AV.any, Go.Sx.AV.any, Go.Sx.AV.any, Go.Sx.AV.any, Go.Sx.AV.any, Go.Sx.AV.any, Go.Sx.AV.any, Go.Sx.AV.any, Go.Sx.AV.any, Go.Sx.AV.any, Go.Sx.AV.any, Go.Sx.AV.any, Go.Sx.AV.any] [Option.some (Go.Sx.Blk.mk Bool.false (29 : Go.TypeId) (4 : Nat) Bool.true (List.map Go.Proofs.Ytffcpblbdfjagaa.L1.roE l)), Option.some (Go.Sx.Blk.mk Bool.true (27 : Nat) (3 : Nat) Bool.true (F (Go.Sx.M.skR l (p + (1 : Nat)))))] = Go.Proofs.Ytffcpblbdfjagaa.L1.gcSt F l p' ∧ Nat.le p' (List.length l) ∧ List.length l + (1 : Nat) - p' < List.length l + (1 : Nat) - p)) ∧ (Decidable.decide ((↑p : Int) < (↑(List.length (List.map Go.Proofs.Ytffcpblbdfjagaa.L1.roE l)) : Int)) = Bool.false → Go.Sx.AV.int Go.IntKind.i64 (Go.Proofs.Ytffcpblbdfjagaa.L1.mxG l p) = r)) := by kernel_rfl

theorem gchain6Cs_ok : ∀ e ∈ gchain6Cs, SpecOK Try.prog e.1 e.2 := by
  intro e he
  simp only [gchain6Cs, List.mem_cons, List.not_mem_nil, or_false] at he
  rcases he with rfl
  · exact pcovers_ok

theorem gchain6_ok : SpecOK Try.prog 36 (genSpec [pRo] gchainF) := by
  refine genSpec_ok (run_ok (l := gchain6Cs) gchain6Cs_ok mixed noNG) fun l R hF => ?_
  unfold gchainF at hF
  split at hF
  · rename_i r_l
    obtain ⟨hr_l, hl, hF⟩ := hF
    generalize deR r_l = l at hr_l hl hF
    subst hr_l
    refine ⟨_, hF, rfl, (gcH (List.map pfE) l), ?_⟩
    show run gchain6Cs Try.prog _ [.vsl 0 0 (l.map roE).length] [some ⟨false, (pRo.getD (0, 0)).1, (pRo.getD (0, 0)).2, true, (l.map roE)⟩] _ _
    rw [gchain6_run]
    have T := tbR_iff.1 hl
    have hm := T.most
    refine ⟨⟨rfl, Nat.zero_le _⟩, ?_⟩
    intro p hp0
    have hp0 : p ≤ l.length := hp0
    refine ⟨fun hlt => ?_, fun hge => ?_⟩
    · have hp : p < l.length := by simp only [decide_eq_true_eq, List.length_map] at hlt; omega
      have B : 0 ≤ (p : Int) ∧ (p : Int) < ((l.map roE).length : Int) := by rw [List.length_map]; omega
      have hs := skR_le T hp0
      have hsm : ((skR l p).map pfE).length = (skR l p).length := List.length_map _
      have hx := mxG_le T hp0
      refine ⟨B, read_rows B.1 B.2 (ro_whole _), ⟨rfl, Nat.le_refl _, fun t h1 h2 => by omega⟩, ?_⟩
      rintro k ⟨k1, k2⟩
      -- with those that stay open, and the route's own
      have out : (0 < k → cvP (at' (skR l p) (k - 1)) (at' l p).p = true) → ((k + 1) * 24 ≤ 140737488355328 ∧ k + 1 ≤ 9223372036854775807 ∧ 0 + 1 ≤ List.length [pfE (at' l p).p] ∧ k ≤ ((skR l p).map pfE).length) ∧ List.take k ((skR l p).map pfE) ++ [pfE (at' l p).p] = (skR l (p + 1)).map pfE ∧ inRange .i64 ((p : Int) + 1) ∧
          ∃ p', (⟨[.any, .any, .any, .vsl 1 0 (k + 1), .int .i64 (if (((k + 1 : Nat) : Int)) > mxG l p then (((k + 1 : Nat) : Int)) else mxG l p), .any, .any, .vsl 0 0 (l.map roE).length, .int .i64 (l.map roE).length, .int .i64 ((p : Int) + 1), .any, .any, .any, .any, .any, .any, .any, .any, .any, .any, .any, .any, .any, .any, .any, .any, .any, .any, .any, .any, .any, .any, .any, .any, .any, .any, .any, .any, .any, .any, .any, .any, .any, .any], [some ⟨false, 29, 4, true, l.map roE⟩, some ⟨true, 27, 3, true, (skR l (p + 1)).map pfE⟩]⟩ : St) = gcSt (List.map pfE) l p' ∧ Nat.le p' l.length ∧ l.length + 1 - p' < l.length + 1 - p := fun h => by
        have e := skR_step T hp k1 k2 h
        have el : (skR l (p + 1)).length = k + 1 := by rw [← e, List.length_append, List.length_take, List.length_cons, List.length_nil]; omega
        refine ⟨⟨by omega, by omega, Nat.le_refl _, by omega⟩, ?_, inR (by omega) (by omega), p + 1, ?_, hp, by omega⟩
        · rw [← e, List.map_append, List.map_take]; rfl
        · unfold gcSt
          have em : mxG l (p + 1) = if (((k + 1 : Nat) : Int)) > mxG l p then (((k + 1 : Nat) : Int)) else mxG l p := by
            show (if ((skR l (p + 1)).length : Int) > mxG l p then ((skR l (p + 1)).length : Int) else mxG l p) = _
            rw [el]
          rw [em, el]; rfl
      refine ⟨fun h0 => ?_, fun h0 => out fun h => ?_⟩
      · have h0 : 0 < k := by have := of_decide_eq_true h0; omega
        have e1 : (k : Int) - 1 = ((k - 1 : Nat) : Int) := by omega
        refine ⟨inR (by omega) (by omega), e1, by omega, read_rows (k := ((k - 1 : Nat) : Int)) (by omega) (by omega) (pf_whole _), fun hc => ?_, fun hc => out fun _ => ?_⟩
        · have hc : (!cvP (at' (skR l p) (k - 1)) (at' l p).p) = true := hc
          have hc : cvP (at' (skR l p) (k - 1)) (at' l p).p = false := by simpa using hc
          refine ⟨inR (by omega) (by omega), e1, by omega, k - 1, rfl, ⟨by omega, fun t h1 h2 => ?_⟩, by omega⟩
          by_cases e : t = k - 1
          · rw [e]; exact hc
          · exact k2 t (by omega) h2
        · have hc : (!cvP (at' (skR l p) (k - 1)) (at' l p).p) = false := hc
          simpa using hc
      · have h0 := of_decide_eq_false h0
        omega
    · have hp : p = l.length := by simp only [decide_eq_false_iff_not, List.length_map] at hge; omega
      subst hp
      obtain ⟨a1, a2, a3⟩ := mxG_spec l l.length
      rw [chR_open T a1 a2 a3]
  · exact hF.elim


end Go.Proofs.Ytffcpblbdfjagaa.L1
