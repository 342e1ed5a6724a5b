/-
  Texts in one: L7A L7D L7E L7W L7B L7BM.
-/
import Derived.Test.YtfpofdlpgocnlaaL6a
import Derived.Test.YtfpofdlpgocnlaaSxU

section
/-
  Layer 7: how many nodes a table's trie has: the document's answer, its contract.
-/
namespace Go.Sx.M
open Go.Proofs.Ytfpofdlpgocnlaa.L1

/-- A prefix cut. -/
def mkP (p : Pf) (n : Int) : Pf := ⟨p.a &&& mkW n, p.b &&& mkW (n - 64), clamp n⟩

/-- One more, if it is not there. -/
def ndA (all : List Pf) (p : Pf) : List Pf := if p ∈ all then all else all ++ [p]

/-- With the first k prefixes of no more bits of a prefix. -/
def ndL (all : List Pf) (p : Pf) : Nat → List Pf
  | 0 => all
  | k + 1 => ndA (ndL all p k) (mkP p ((k : Int) + 1))

/-- The prefixes that some route begins with. -/
def ndT (l : List Ro) : List Pf := l.foldl (fun all x => ndL all x.p x.p.len.toNat) [⟨0#64, 0#64, 0⟩]

/-- Is it one of them? -/
def inB (p : Pf) (l : List Pf) : Bool := decide (p ∈ l)

def ndR (l : List Ro) : Int := ((ndT l).length : Int)

theorem ndA_length (all : List Pf) (p : Pf) : (ndA all p).length ≤ all.length + 1 := by
  unfold ndA
  split
  · omega
  · rw [List.length_append]; simp

theorem ndL_length (all : List Pf) (p : Pf) : ∀ k, (ndL all p k).length ≤ all.length + k
  | 0 => Nat.le_refl _
  | k + 1 => by
    have := ndL_length all p k
    have := ndA_length (ndL all p k) (mkP p ((k : Int) + 1))
    unfold ndL; omega

theorem ndT_snoc (l : List Ro) (x : Ro) : ndT (l ++ [x]) = ndL (ndT l) x.p x.p.len.toNat := by
  unfold ndT
  rw [List.foldl_append]
  rfl

theorem ndT_length {l : List Ro} (h : ∀ x ∈ l, x.p.len ≤ 128) : (ndT l).length ≤ 1 + 128 * l.length := by
  have key : ∀ (l : List Ro) (all : List Pf), (∀ x ∈ l, x.p.len ≤ 128) → (l.foldl (fun all x => ndL all x.p x.p.len.toNat) all).length ≤ all.length + 128 * l.length := by
    intro l
    induction l with
    | nil => intro all _; simp
    | cons x l ih =>
      intro all h
      rw [List.foldl_cons]
      have h1 := ih (ndL all x.p x.p.len.toNat) fun y hy => h y (by simp [hy])
      have h2 := ndL_length all x.p x.p.len.toNat
      have h3 := h x (by simp)
      rw [List.length_cons]
      omega
  have := key l [⟨0#64, 0#64, 0⟩] h
  simp only [List.length_cons, List.length_nil] at this
  unfold ndT
  omega

/-- A table of a family is one of the greater family. -/
theorem TB.up {w : Int} {l : List Ro} (h : TB w l) : TB 128 l :=
  ⟨.inr rfl, h.most, fun x hx => by
    have h1 := h.right x hx
    unfold riR at h1 ⊢
    rw [Bool.and_eq_true] at h1 ⊢
    refine ⟨?_, h1.2⟩
    obtain ⟨a, b, c, d⟩ := riP_iff.1 h1.1
    exact riP_iff.2 ⟨.inr rfl, b, by omega, d⟩, h.sorted⟩

theorem tbR_up {w : Int} {l : List Ro} (h : tbR w l = true) : tbR 128 l = true := tbR_iff.2 (tbR_iff.1 h).up

theorem TB.len {w : Int} {l : List Ro} (h : TB w l) {x : Ro} (hx : x ∈ l) : 0 ≤ x.p.len ∧ x.p.len ≤ 128 := by
  obtain ⟨a, b, c, _⟩ := riP_iff.1 (h.rip hx)
  omega

end Go.Sx.M
namespace Go.Proofs.Ytfpofdlpgocnlaa.L1
open Go.Sx Go.Sx.M

theorem rmake02_ok : SpecOK Try.prog 38 (genSpec [none, none] makeF) := rmake_ok

theorem rp_whole (x : Pf) : partOf Try.prog 46 (pfE x).cells 0 = some (pfE x) := by kernel_rfl
theorem rr_addr (x : Ro) : partOf Try.prog 36 (roE x).cells 0 = some (.agg [.w64 x.p.a, .w64 x.p.b]) := by kernel_rfl

def nd1 (F : List Pf → List AV) (l : List Ro) (i : Nat) : St :=
  ⟨[.vsl 0 0 (l.map roE).length, .any, .any, .vsl 1 0 (ndT (l.take i)).length, .int .i64 i, .any, .any, .any, .any, .any, .any, .any, .any, .any, .any, .any, .any, .any, .any, .any, .any, .any, .any, .any, .any, .any, .any, .any, .any, .any, .any, .any, .any, .any, .any, .any, .any, .any, .any, .any, .any, .any, .any, .any, .any, .any, .any, .any, .any, .any, .any, .any, .any, .any, .any], [some ⟨false, 48, 4, true, l.map roE⟩, some ⟨true, 46, 3, true, F (ndT (l.take i))⟩]⟩
def ndK (l : List Ro) (i k : Nat) : List Pf := ndL (ndT (l.take i)) (at' l i).p k
def nd2 (F : List Pf → List AV) (l : List Ro) (i k : Nat) : St :=
  ⟨[.vsl 0 0 (l.map roE).length, .any, .any, .vsl 1 0 (ndK l i k).length, .int .i64 i, .int .i64 ((k : Int) + 1), .any, .any, .any, .any, .any, .any, .any, .any, .any, .any, .any, .any, .any, .any, .any, .any, .any, .any, .any, .any, .any, .any, .any, .any, .any, .any, .any, .any, .any, .any, .any, .any, .any, .any, .any, .any, .any, .any, .any, .any, .any, .any, .any, .any, .any, .any, .any, .any, .any], [some ⟨false, 48, 4, true, l.map roE⟩, some ⟨true, 46, 3, true, F (ndK l i k)⟩]⟩
def nd4 (F : List Pf → List AV) (l : List Ro) (i k j : Nat) : St :=
  ⟨[.vsl 0 0 (l.map roE).length, .any, .any, .vsl 1 0 (ndK l i k).length, .int .i64 i, .int .i64 ((k : Int) + 1), .ptr 2 0 0 true, .bool (inB (mkP (at' l i).p ((k : Int) + 1)) ((ndK l i k).take j)), .int .i64 j, .any, .any, .any, .any, .any, .any, .any, .any, .any, .any, .any, .any, .any, .any, .any, .any, .any, .any, .any, .any, .any, .any, .any, .any, .any, .any, .any, .any, .any, .any, .any, .any, .any, .any, .any, .any, .any, .any, .any, .any, .any, .any, .any, .any, .any, .any], [some ⟨false, 48, 4, true, l.map roE⟩, some ⟨true, 46, 3, true, F (ndK l i k)⟩, some ⟨true, 46, 3, true, [pfE (mkP (at' l i).p ((k : Int) + 1))]⟩]⟩
def ndM10 : Modes := ⟨[1, 0, 0, 1, 2, 0, 0, 0, 0, 0, 0, 0, 0, 0, 0, 0, 0, 0, 0, 0, 0, 0, 0, 0, 0, 0, 0, 0, 0, 0, 0, 0, 0, 0, 0, 0, 0, 0, 0, 0, 0, 0, 0, 0, 0, 0, 0, 0, 0, 0, 0, 0, 0, 0, 0], [], [], [3], []⟩
def ndM1 : Modes := ⟨[1, 0, 0, 1, 1, 0, 0, 0, 0, 0, 0, 0, 0, 0, 0, 0, 0, 0, 0, 0, 0, 0, 0, 0, 0, 0, 0, 0, 0, 0, 0, 0, 0, 0, 0, 0, 0, 0, 0, 0, 0, 0, 0, 0, 0, 0, 0, 0, 0, 0, 0, 0, 0, 0, 0], [], [], [], []⟩
def ndM1' : Modes := ⟨[0, 0, 0, 1, 0, 0, 0, 0, 0, 0, 0, 0, 0, 0, 0, 0, 0, 0, 0, 0, 0, 0, 0, 0, 0, 0, 0, 0, 0, 0, 0, 0, 0, 0, 0, 0, 0, 0, 0, 0, 0, 0, 0, 0, 0, 0, 0, 0, 0, 0, 0, 0, 0, 0, 0], [], [], [], []⟩
def ndM20 : Modes := ⟨[1, 0, 0, 1, 1, 2, 0, 0, 0, 0, 0, 0, 0, 0, 0, 0, 0, 0, 0, 0, 0, 0, 0, 0, 0, 0, 0, 0, 0, 0, 0, 0, 0, 0, 0, 0, 0, 0, 0, 0, 0, 0, 0, 0, 0, 0, 0, 0, 0, 0, 0, 0, 0, 0, 0], [], [], [], []⟩
def ndM2 : Modes := ⟨[1, 0, 0, 1, 1, 1, 0, 0, 0, 0, 0, 0, 0, 0, 0, 0, 0, 0, 0, 0, 0, 0, 0, 0, 0, 0, 0, 0, 0, 0, 0, 0, 0, 0, 0, 0, 0, 0, 0, 0, 0, 0, 0, 0, 0, 0, 0, 0, 0, 0, 0, 0, 0, 0, 0], [], [], [], []⟩
def ndM40 : Modes := ⟨[1, 0, 0, 1, 1, 1, 1, 2, 2, 0, 0, 0, 0, 0, 0, 0, 0, 0, 0, 0, 0, 0, 0, 0, 0, 0, 0, 0, 0, 0, 0, 0, 0, 0, 0, 0, 0, 0, 0, 0, 0, 0, 0, 0, 0, 0, 0, 0, 0, 0, 0, 0, 0, 0, 0], [], [], [], []⟩
def ndM4 : Modes := ⟨[1, 0, 0, 1, 1, 1, 1, 2, 1, 0, 0, 0, 0, 0, 0, 0, 0, 0, 0, 0, 0, 0, 0, 0, 0, 0, 0, 0, 0, 0, 0, 0, 0, 0, 0, 0, 0, 0, 0, 0, 0, 0, 0, 0, 0, 0, 0, 0, 0, 0, 0, 0, 0, 0, 0], [], [], [], []⟩
def ndM4' : Modes := ⟨[1, 0, 0, 1, 1, 1, 1, 1, 0, 0, 0, 0, 0, 0, 0, 0, 0, 0, 0, 0, 0, 0, 0, 0, 0, 0, 0, 0, 0, 0, 0, 0, 0, 0, 0, 0, 0, 0, 0, 0, 0, 0, 0, 0, 0, 0, 0, 0, 0, 0, 0, 0, 0, 0, 0], [], [], [], []⟩
def ndH (F : List Pf → List AV) (l : List Ro) : List Hint := [.linv _ 0 (nd1 F l) (fun i => i ≤ l.length) (fun i => l.length + 1 - i) ndM10 ndM1 ndM1' (fun _ => []) fun i =>
  [.fork [.linv _ 0 (nd2 F l i) (fun k => k ≤ (at' l i).p.len.toNat) (fun k => (at' l i).p.len.toNat + 1 - k) ndM20 ndM2 ndM1 (fun _ => [.nw]) fun k =>
    [.dy, .cell (.int .i64 (at' l i).p.len), .fork [.dy, .cell (.agg [.w64 (at' l i).p.a, .w64 (at' l i).p.b]), .linv _ 0 (nd4 F l i k) (fun j => j ≤ (ndK l i k).length) (fun j => (ndK l i k).length + 1 - j) ndM40 ndM4 ndM4' (fun _ => [.fork [.rows (F (ndK l i (k + 1))), .nw] [.nw]]) fun j =>
      [.fork [.dy, .cell (pfE (at' (ndK l i k) j)), .fork [.nw] [.nw]] []]] []]] []]]

def ndrF : List Arg → (Res → Prop) → Prop
  | [.row r_l], R => r_l = (deR r_l).map roE ∧ tbR 128 (deR r_l) = true ∧ R (.v (.int .i64 (ndR (deR r_l))))
  | _, _ => False

theorem inB_zero (x : Pf) (m : List Pf) : inB x (m.take 0) = false := by unfold inB; simp

theorem inB_step (x : Pf) {m : List Pf} {j : Nat} (hj : j < m.length) : inB x (m.take (j + 1)) = (inB x (m.take j) || decide (at' m j = x)) := by
  unfold inB
  rw [take_one hj, Bool.eq_iff_iff, Bool.or_eq_true, decide_eq_true_eq, decide_eq_true_eq, decide_eq_true_eq, List.mem_append, List.mem_singleton]
  exact ⟨fun h => h.imp id Eq.symm, fun h => h.imp id Eq.symm⟩

theorem ndK_next {l : List Ro} {i k : Nat} : (inB (mkP (at' l i).p ((k : Int) + 1)) (ndK l i k) = false → ndK l i (k + 1) = ndK l i k ++ [mkP (at' l i).p ((k : Int) + 1)]) ∧ (inB (mkP (at' l i).p ((k : Int) + 1)) (ndK l i k) = true → ndK l i (k + 1) = ndK l i k) := by
  have d : ndK l i (k + 1) = ndA (ndK l i k) (mkP (at' l i).p ((k : Int) + 1)) := rfl
  rw [d]
  unfold ndA inB
  exact ⟨fun h => if_neg (of_decide_eq_false h), fun h => if_pos (of_decide_eq_true h)⟩

noncomputable def rnodes7Cs : List (FuncId × Sx.Spec) := [(38, genSpec [none, none] makeF)]

theorem rnodes7_run (l : List Ro) (F : List Pf → List AV) (r : AV) : run rnodes7Cs Try.prog 16 [.vsl 0 0 (l.map roE).length] [some ⟨false, (pRefR.getD (0, 0)).1, (pRefR.getD (0, 0)).2, true, (l.map roE)⟩] (ndH F l) (yields (.v r)) =
    ((St.mk [AV.vsl (0 : Nat) (0 : Nat) (List.length (List.map roE l)), AV.any, AV.any, AV.vsl ((0 : Nat) + (1 : Nat)) (0 : Nat) (1 : Nat), AV.int IntKind.i64 (0 : Int), AV.any, AV.any, AV.any, AV.any, AV.any, AV.any, AV.any, AV.any, AV.any, AV.any, AV.any, AV.any, AV.any, AV.any, AV.any, AV.any, AV.any, AV.any, AV.any, AV.any, AV.any, AV.any, AV.any, AV.any, AV.any, AV.any, AV.any, AV.any, AV.any, AV.any, AV.any, AV.any, AV.any, AV.any, AV.any, AV.any, AV.any, AV.any, AV.any, AV.any, AV.any, AV.any, AV.any, AV.any, AV.any, AV.any, AV.any, AV.any, AV.any, AV.any] [some (Blk.mk false (nat_lit 48) (4 : Nat) true (List.map roE l)), some (Blk.mk true (46 : Nat) (3 : Nat) (true && true && true) [AV.agg [AV.w64 (BitVec.ofInt (64 : Nat) (0 : Int)), AV.w64 (BitVec.ofInt (64 : Nat) (0 : Int)), AV.int IntKind.i64 (0 : Int)]])] = nd1 F l (0 : Nat) ∧ Nat.le (0 : Nat) (List.length l)) ∧ ∀ (p : Nat), Nat.le p (List.length l) → (Decidable.decide ((↑p : Int) < (↑(List.length (List.map roE l)) : Int)) = true → (St.mk [AV.vsl (0 : Nat) (0 : Nat) (List.length (List.map roE l)), AV.any, AV.any, AV.vsl ((0 : Nat) + (1 : Nat)) (0 : Nat) (List.length (ndT (List.take p l))), AV.int IntKind.i64 (↑p : Int), AV.int IntKind.i64 (1 : Int), AV.any, AV.any, AV.any, AV.any, AV.any, AV.any, AV.any, AV.any, AV.any, AV.any, AV.any, AV.any, AV.any, AV.any, AV.any, AV.any, AV.any, AV.any, AV.any, AV.any, AV.any, AV.any, AV.any, AV.any, AV.any, AV.any, AV.any, AV.any, AV.any, AV.any, AV.any, AV.any, AV.any, AV.any, AV.any, AV.any, AV.any, AV.any, AV.any, AV.any, AV.any, AV.any, AV.any, AV.any, AV.any, AV.any, AV.any, AV.any, AV.any] [some (Blk.mk false (48 : TypeId) (4 : Nat) true (List.map roE l)), some (Blk.mk true (46 : TypeId) (3 : Nat) true (F (ndT (List.take p l))))] = nd2 F l p (0 : Nat) ∧ Nat.le (0 : Nat) (Int.toNat (Ro.p (at' l p)).3)) ∧ ∀ (p_1 : Nat), Nat.le p_1 (Int.toNat (Ro.p (at' l p)).3) → ((0 : Int) ≤ (↑p : Int) ∧ (↑p : Int) < (↑(List.length (List.map roE l)) : Int)) ∧ Blk.read Proofs.Try.prog (Blk.mk false (48 : TypeId) (4 : Nat) true (List.map roE l)) (3 : Nat) ((0 : Nat) + Int.toNat (↑p : Int)) ((0 : Nat) + (0 : Nat) + (2 : Nat)) = some (AV.int IntKind.i64 (Ro.p (at' l p)).3) ∧ (Decidable.decide ((↑p_1 : Int) + (1 : Int) ≤ (Ro.p (at' l p)).3) = true → ((0 : Int) ≤ (↑p : Int) ∧ (↑p : Int) < (↑(List.length (List.map roE l)) : Int)) ∧ Blk.read Proofs.Try.prog (Blk.mk false (48 : TypeId) (4 : Nat) true (List.map roE l)) (36 : Nat) ((0 : Nat) + Int.toNat (↑p : Int)) ((0 : Nat) + (0 : Nat) + (0 : Nat)) = some (AV.agg [AV.w64 (Ro.p (at' l p)).1, AV.w64 (Ro.p (at' l p)).2]) ∧ (St.mk [AV.vsl (0 : Nat) (0 : Nat) (List.length (List.map roE l)), AV.any, AV.any, AV.vsl ((0 : Nat) + (1 : Nat)) (0 : Nat) (List.length (ndK l p p_1)), AV.int IntKind.i64 (↑p : Int), AV.int IntKind.i64 ((↑p_1 : Int) + (1 : Int)), AV.ptr ((0 : Nat) + (1 : Nat) + (1 : Nat)) (0 : Nat) (0 : Nat) true, AV.bool false, AV.int IntKind.i64 (0 : Int), AV.any, AV.any, AV.any, AV.any, AV.any, AV.any, AV.any, AV.any, AV.any, AV.any, AV.any, AV.any, AV.any, AV.any, AV.any, AV.any, AV.any, AV.any, AV.any, AV.any, AV.any, AV.any, AV.any, AV.any, AV.any, AV.any, AV.any, AV.any, AV.any, AV.any, AV.any, AV.any, AV.any, AV.any, AV.any, AV.any, AV.any, AV.any, AV.any, AV.any, AV.any, AV.any, AV.any, AV.any, AV.any, AV.any] [some (Blk.mk false (48 : TypeId) (4 : Nat) true (List.map roE l)), some (Blk.mk true (46 : TypeId) (3 : Nat) true (F (ndK l p p_1))), some (Blk.write (Blk.mk true (46 : Nat) (3 : Nat) true [AV.agg [AV.lit (Value.int IntKind.u64 (0 : Int)), AV.lit (Value.int IntKind.u64 (0 : Int)), AV.lit (Value.int IntKind.i64 (0 : Int))]]) (0 : Nat) (0 : Nat) (AV.agg [AV.w64 ((Ro.p (at' l p)).1 &&& mkW ((↑p_1 : Int) + (1 : Int))), AV.w64 ((Ro.p (at' l p)).2 &&& mkW ((↑p_1 : Int) + (1 : Int) - (64 : Int))), AV.int IntKind.i64 (clamp ((↑p_1 : Int) + (1 : Int)))]))] = nd4 F l p p_1 (0 : Nat) ∧ Nat.le (0 : Nat) (List.length (ndK l p p_1))) ∧ ∀ (p_2 : Nat), Nat.le p_2 (List.length (ndK l p p_1)) → (Decidable.decide ((↑p_2 : Int) < (↑(List.length (ndK l p p_1)) : Int)) = true → ((0 : Int) ≤ (↑p_2 : Int) ∧ (↑p_2 : Int) < (↑(List.length (ndK l p p_1)) : Int)) ∧ Blk.read Proofs.Try.prog (Blk.mk true (46 : TypeId) (3 : Nat) true (F (ndK l p p_1))) (46 : Nat) ((0 : Nat) + Int.toNat (↑p_2 : Int)) (0 : Nat) = some (AV.agg [AV.w64 (at' (ndK l p p_1) p_2).1, AV.w64 (at' (ndK l p p_1) p_2).2, AV.int IntKind.i64 (at' (ndK l p p_1) p_2).3]) ∧ (((at' (ndK l p p_1) p_2).1 == (Ro.p (at' l p)).1 &&& mkW ((↑p_1 : Int) + (1 : Int)) && (at' (ndK l p p_1) p_2).2 == (Ro.p (at' l p)).2 &&& mkW ((↑p_1 : Int) + (1 : Int) - (64 : Int)) && (at' (ndK l p p_1) p_2).3 == clamp ((↑p_1 : Int) + (1 : Int))) = true → inRange IntKind.i64 ((↑p_2 : Int) + (1 : Int)) ∧ ∃ (p' : Nat), St.mk [AV.vsl (0 : Nat) (0 : Nat) (List.length (List.map roE l)), AV.any, AV.any, AV.vsl ((0 : Nat) + (1 : Nat)) (0 : Nat) (List.length (ndK l p p_1)), AV.int IntKind.i64 (↑p : Int), AV.int IntKind.i64 ((↑p_1 : Int) + (1 : Int)), AV.ptr ((0 : Nat) + (1 : Nat) + (1 : Nat)) (0 : Nat) (0 : Nat) true, AV.bool true, AV.int IntKind.i64 ((↑p_2 : Int) + (1 : Int)), AV.any, AV.any, AV.any, AV.any, AV.any, AV.any, AV.any, AV.any, AV.any, AV.any, AV.any, AV.any, AV.any, AV.any, AV.any, AV.any, AV.any, AV.any, AV.any, AV.any, AV.any, AV.any, AV.any, AV.any, AV.any, AV.any, AV.any, AV.any, AV.any, AV.any, AV.any, AV.any, AV.any, AV.any, AV.any, AV.any, AV.any, AV.any, AV.any, AV.any, AV.any, AV.any, AV.any, AV.any, AV.any, AV.any] [some (Blk.mk false (48 : TypeId) (4 : Nat) true (List.map roE l)), some (Blk.mk true (46 : TypeId) (3 : Nat) true (F (ndK l p p_1))), some (Blk.mk true (46 : TypeId) (3 : Nat) true [AV.agg [AV.w64 ((Ro.p (at' l p)).1 &&& mkW ((↑p_1 : Int) + (1 : Int))), AV.w64 ((Ro.p (at' l p)).2 &&& mkW ((↑p_1 : Int) + (1 : Int) - (64 : Int))), AV.int IntKind.i64 (clamp ((↑p_1 : Int) + (1 : Int)))]])] = nd4 F l p p_1 p' ∧ Nat.le p' (List.length (ndK l p p_1)) ∧ List.length (ndK l p p_1) + (1 : Nat) - p' < List.length (ndK l p p_1) + (1 : Nat) - p_2) ∧ (((at' (ndK l p p_1) p_2).1 == (Ro.p (at' l p)).1 &&& mkW ((↑p_1 : Int) + (1 : Int)) && (at' (ndK l p p_1) p_2).2 == (Ro.p (at' l p)).2 &&& mkW ((↑p_1 : Int) + (1 : Int) - (64 : Int)) && (at' (ndK l p p_1) p_2).3 == clamp ((↑p_1 : Int) + (1 : Int))) = false → inRange IntKind.i64 ((↑p_2 : Int) + (1 : Int)) ∧ ∃ (p' : Nat), St.mk [AV.vsl (0 : Nat) (0 : Nat) (List.length (List.map roE l)), AV.any, AV.any, AV.vsl ((0 : Nat) + (1 : Nat)) (0 : Nat) (List.length (ndK l p p_1)), AV.int IntKind.i64 (↑p : Int), AV.int IntKind.i64 ((↑p_1 : Int) + (1 : Int)), AV.ptr ((0 : Nat) + (1 : Nat) + (1 : Nat)) (0 : Nat) (0 : Nat) true, AV.bool (inB (mkP (at' l p).1 ((↑p_1 : Int) + (1 : Int))) (List.take p_2 (ndK l p p_1))), AV.int IntKind.i64 ((↑p_2 : Int) + (1 : Int)), AV.any, AV.any, AV.any, AV.any, AV.any, AV.any, AV.any, AV.any, AV.any, AV.any, AV.any, AV.any, AV.any, AV.any, AV.any, AV.any, AV.any, AV.any, AV.any, AV.any, AV.any, AV.any, AV.any, AV.any, AV.any, AV.any, AV.any, AV.any, AV.any, AV.any, AV.any, AV.any, AV.any, AV.any, AV.any, AV.any, AV.any, AV.any, AV.any, AV.any, AV.any, AV.any, AV.any, AV.any, AV.any, AV.any] [some (Blk.mk false (48 : TypeId) (4 : Nat) true (List.map roE l)), some (Blk.mk true (46 : TypeId) (3 : Nat) true (F (ndK l p p_1))), some (Blk.mk true (46 : TypeId) (3 : Nat) true [AV.agg [AV.w64 ((Ro.p (at' l p)).1 &&& mkW ((↑p_1 : Int) + (1 : Int))), AV.w64 ((Ro.p (at' l p)).2 &&& mkW ((↑p_1 : Int) + (1 : Int) - (64 : Int))), AV.int IntKind.i64 (clamp ((↑p_1 : Int) + (1 : Int)))]])] = nd4 F l p p_1 p' ∧ Nat.le p' (List.length (ndK l p p_1)) ∧ List.length (ndK l p p_1) + (1 : Nat) - p' < List.length (ndK l p p_1) + (1 : Nat) - p_2)) ∧ (Decidable.decide ((↑p_2 : Int) < (↑(List.length (ndK l p p_1)) : Int)) = false → ((!inB (mkP (at' l p).1 ((↑p_1 : Int) + (1 : Int))) (List.take p_2 (ndK l p p_1))) = true → ((List.length (ndK l p p_1) + (1 : Nat)) * (24 : Nat) ≤ (140737488355328 : Nat) ∧ List.length (ndK l p p_1) + (1 : Nat) ≤ (9223372036854775807 : Nat) ∧ (0 : Nat) + (1 : Nat) ≤ List.length [AV.agg [AV.w64 ((Ro.p (at' l p)).1 &&& mkW ((↑p_1 : Int) + (1 : Int))), AV.w64 ((Ro.p (at' l p)).2 &&& mkW ((↑p_1 : Int) + (1 : Int) - (64 : Int))), AV.int IntKind.i64 (clamp ((↑p_1 : Int) + (1 : Int)))]] ∧ List.length (ndK l p p_1) ≤ List.length (F (ndK l p p_1))) ∧ List.take (List.length (ndK l p p_1)) (F (ndK l p p_1)) ++ [AV.agg [AV.w64 ((Ro.p (at' l p)).1 &&& mkW ((↑p_1 : Int) + (1 : Int))), AV.w64 ((Ro.p (at' l p)).2 &&& mkW ((↑p_1 : Int) + (1 : Int) - (64 : Int))), AV.int IntKind.i64 (clamp ((↑p_1 : Int) + (1 : Int)))]] = F (ndK l p (p_1 + (1 : Nat))) ∧ inRange IntKind.i64 ((↑p_1 : Int) + (1 : Int) + (1 : Int)) ∧ ∃ (p' : Nat), St.mk [AV.vsl (0 : Nat) (0 : Nat) (List.length (List.map roE l)), AV.any, AV.any, AV.vsl ((0 : Nat) + (1 : Nat)) (0 : Nat) (List.length (ndK l p p_1) + (1 : Nat)), AV.int IntKind.i64 (↑p : Int), AV.int IntKind.i64 ((↑p_1 : Int) + (1 : Int) + (1 : Int)), AV.any, AV.any, AV.any, AV.any, AV.any, AV.any, AV.any, AV.any, AV.any, AV.any, AV.any, AV.any, AV.any, AV.any, AV.any, AV.any, AV.any, AV.any, AV.any, AV.any, AV.any, AV.any, AV.any, AV.any, AV.any, AV.any, AV.any, AV.any, AV.any, AV.any, AV.any, AV.any, AV.any, AV.any, AV.any, AV.any, AV.any, AV.any, AV.any, AV.any, AV.any, AV.any, AV.any, AV.any, AV.any, AV.any, AV.any, AV.any, AV.any] [some (Blk.mk false (48 : TypeId) (4 : Nat) true (List.map roE l)), some (Blk.mk true (46 : Nat) (3 : Nat) true (F (ndK l p (p_1 + (1 : Nat)))))] = nd2 F l p p' ∧ Nat.le p' (Int.toNat (Ro.p (at' l p)).3) ∧ Int.toNat (Ro.p (at' l p)).3 + (1 : Nat) - p' < Int.toNat (Ro.p (at' l p)).3 + (1 : Nat) - p_1) ∧ ((!inB (mkP (at' l p).1 ((↑p_1 : Int) + (1 : Int))) (List.take p_2 (ndK l p p_1))) = false → inRange IntKind.i64 ((↑p_1 : Int) + (1 : Int) + (1 : Int)) ∧ ∃ (p' : Nat), St.mk [AV.vsl (0 : Nat) (0 : Nat) (List.length (List.map roE l)), AV.any, AV.any, AV.vsl ((0 : Nat) + (1 : Nat)) (0 : Nat) (List.length (ndK l p p_1)), AV.int IntKind.i64 (↑p : Int), AV.int IntKind.i64 ((↑p_1 : Int) + (1 : Int) + (1 : Int)), AV.any, AV.any, AV.any, AV.any, AV.any, AV.any, AV.any, AV.any, AV.any, AV.any, AV.any, AV.any, AV.any, AV.any, AV.any, AV.any, AV.any, AV.any, AV.any, AV.any, AV.any, AV.any, AV.any, AV.any, AV.any, AV.any, AV.any, AV.any, AV.any, AV.any, AV.any, AV.any, AV.any, AV.any, AV.any, AV.any, AV.any, AV.any, AV.any, AV.any, AV.any, AV.any, AV.any, AV.any, AV.any, AV.any, AV.any, AV.any, AV.any] [some (Blk.mk false (48 : TypeId) (4 : Nat) true (List.map roE l)), some (Blk.mk true (46 : TypeId) (3 : Nat) true (F (ndK l p p_1)))] = nd2 F l p p' ∧ Nat.le p' (Int.toNat (Ro.p (at' l p)).3) ∧ Int.toNat (Ro.p (at' l p)).3 + (1 : Nat) - p' < Int.toNat (Ro.p (at' l p)).3 + (1 : Nat) - p_1))) ∧ (Decidable.decide ((↑p_1 : Int) + (1 : Int) ≤ (Ro.p (at' l p)).3) = false → inRange IntKind.i64 ((↑p : Int) + (1 : Int)) ∧ ∃ (p' : Nat), St.mk [AV.vsl (0 : Nat) (0 : Nat) (List.length (List.map roE l)), AV.any, AV.any, AV.vsl ((0 : Nat) + (1 : Nat)) (0 : Nat) (List.length (ndK l p p_1)), AV.int IntKind.i64 ((↑p : Int) + (1 : Int)), AV.any, AV.any, AV.any, AV.any, AV.any, AV.any, AV.any, AV.any, AV.any, AV.any, AV.any, AV.any, AV.any, AV.any, AV.any, AV.any, AV.any, AV.any, AV.any, AV.any, AV.any, AV.any, AV.any, AV.any, AV.any, AV.any, AV.any, AV.any, AV.any, AV.any, AV.any, AV.any, AV.any, AV.any, AV.any, AV.any, AV.any, AV.any, AV.any, AV.any, AV.any, AV.any, AV.any, AV.any, AV.any, AV.any, AV.any, AV.any, AV.any, AV.any] [some (Blk.mk false (48 : TypeId) (4 : Nat) true (List.map roE l)), some (Blk.mk true (46 : TypeId) (3 : Nat) true (F (ndK l p p_1)))] = nd1 F l p' ∧ Nat.le p' (List.length l) ∧ List.length l + (1 : Nat) - p' < List.length l + (1 : Nat) - p)) ∧ (Decidable.decide ((↑p : Int) < (↑(List.length (List.map roE l)) : Int)) = false → AV.int IntKind.i64 (↑(List.length (ndT (List.take p l))) : Int) = r)) := by kernel_rfl

theorem rnodes7Cs_ok : ∀ e ∈ rnodes7Cs, SpecOK Try.prog e.1 e.2 := by
  intro e he
  simp only [rnodes7Cs, List.mem_cons, List.not_mem_nil, or_false] at he
  rcases he with rfl
  · exact rmake02_ok

theorem rnodes7_ok : SpecOK Try.prog 16 (genSpec [pRefR] ndrF) := by
  refine genSpec_ok (run_ok (l := rnodes7Cs) rnodes7Cs_ok mixed noNG) fun l R hF => ?_
  unfold ndrF at hF
  split at hF
  · rename_i r_l
    obtain ⟨hr_l, hl, hF⟩ := hF
    generalize deR r_l = l at hr_l hl hF
    subst hr_l
    refine ⟨_, hF, rfl, (ndH (List.map pfE) l), ?_⟩
    show run rnodes7Cs Try.prog _ [.vsl 0 0 (l.map roE).length] [some ⟨false, (pRefR.getD (0, 0)).1, (pRefR.getD (0, 0)).2, true, (l.map roE)⟩] _ _
    rw [rnodes7_run]
    have T := tbR_iff.1 hl
    have hm := T.most
    have hlen : (l.map roE).length = l.length := List.length_map _
    refine ⟨⟨rfl, Nat.zero_le _⟩, ?_⟩
    intro i hi0
    have hi0 : i ≤ l.length := hi0
    refine ⟨fun hlt => ?_, fun hge => ?_⟩
    · have hi : i < l.length := by have := of_decide_eq_true hlt; omega
      have B : 0 ≤ (i : Int) ∧ (i : Int) < ((l.map roE).length : Int) := by omega
      have hL := T.len (at_mem hi)
      refine ⟨⟨rfl, Nat.zero_le _⟩, ?_⟩
      intro k hk0
      have hk0 : k ≤ (at' l i).p.len.toNat := hk0
      have hb : (ndK l i k).length ≤ 100000 := by
        have h1 := ndL_length (ndT (l.take i)) (at' l i).p k
        have h2 := ndT_length (l := l.take i) fun x hx => (T.len (List.mem_of_mem_take hx)).2
        rw [List.length_take] at h2
        unfold ndK; omega
      have hbm : ((ndK l i k).map pfE).length = (ndK l i k).length := List.length_map _
      refine ⟨B, read_rows B.1 B.2 (ro_len _), fun hle => ⟨B, read_rows B.1 B.2 (rr_addr _), ⟨?_, Nat.zero_le _⟩, ?_⟩, fun hgt => ?_⟩
      · unfold nd4
        rw [inB_zero]; rfl
      · intro j hj0
        have hj0 : j ≤ (ndK l i k).length := hj0
        refine ⟨fun hjl => ?_, fun hjg => ?_⟩
        · have hj : j < (ndK l i k).length := by have := of_decide_eq_true hjl; omega
          have hd : ((at' (ndK l i k) j).a == (at' l i).p.a &&& mkW ((k : Int) + 1) && (at' (ndK l i k) j).b == (at' l i).p.b &&& mkW ((k : Int) + 1 - 64) && (at' (ndK l i k) j).len == clamp ((k : Int) + 1)) = decide (at' (ndK l i k) j = mkP (at' l i).p ((k : Int) + 1)) := eqPf _ _ _ _
          have hs := inB_step (mkP (at' l i).p ((k : Int) + 1)) hj
          rw [← hd] at hs
          refine ⟨⟨by omega, by omega⟩, read_rows (k := (j : Int)) (by omega) (by omega) (rp_whole _), fun he => ⟨inR (by omega) (by omega), j + 1, ?_, hj, by omega⟩, fun he => ⟨inR (by omega) (by omega), j + 1, ?_, hj, by omega⟩⟩
          · rw [he, Bool.or_true] at hs
            unfold nd4; rw [hs]; rfl
          · rw [he, Bool.or_false] at hs
            unfold nd4; rw [hs]; rfl
        · have hj : j = (ndK l i k).length := by have := of_decide_eq_false hjg; omega
          subst hj
          rw [List.take_length]
          have hk1 : (k : Int) + 1 ≤ (at' l i).p.len := of_decide_eq_true hle
          refine ⟨fun hn => ?_, fun hn => ?_⟩
          · have e := ndK_next.1 (show inB (mkP (at' l i).p ((k : Int) + 1)) (ndK l i k) = false by simpa using hn)
            refine ⟨⟨by omega, by omega, Nat.le_refl _, by omega⟩, ?_, inR (by omega) (by omega), k + 1, ?_, ?_, by omega⟩
            · rw [e, List.map_append, List.take_of_length_le (by omega)]; rfl
            · unfold nd2; rw [e, List.length_append]; rfl
            · show k + 1 ≤ (at' l i).p.len.toNat
              omega
          · have e := ndK_next.2 (show inB (mkP (at' l i).p ((k : Int) + 1)) (ndK l i k) = true by simpa using hn)
            refine ⟨inR (by omega) (by omega), k + 1, ?_, ?_, by omega⟩
            · unfold nd2; rw [e]; rfl
            · show k + 1 ≤ (at' l i).p.len.toNat
              omega
      · have hk1 : ¬ (k : Int) + 1 ≤ (at' l i).p.len := of_decide_eq_false hgt
        have e : ndT (l.take (i + 1)) = ndK l i k := by
          rw [take_one hi, ndT_snoc, show (at' l i).p.len.toNat = k by omega]; rfl
        exact ⟨inR (by omega) (by omega), i + 1, by unfold nd1; rw [e]; rfl, hi, by omega⟩
    · have hi : i = l.length := by have := of_decide_eq_false hge; omega
      subst hi
      rw [List.take_length]; rfl
  · exact hF.elim


end Go.Proofs.Ytfpofdlpgocnlaa.L1
end

section
/-
  Layer 7: what the contracts of a trie's calls say; the law's run: a trie and the document's table, behind calls.
-/
namespace Go.Sx.M
open Go.Proofs.Ytfpofdlpgocnlaa.L1

/-- A call. -/
structure OpR where
  kind : Int
  r : Ro
  deriving DecidableEq, Inhabited

/-- A table behind a call; whether there was such a route; the call's error. -/
def dT (w : Int) (l : List Ro) (put : Bool) (r : Ro) : List Ro :=
  if put then (if riR w r then (if (fdR l r.p).isSome || decide (l.length < 256) then ptR l r else l) else l)
  else (if riP w r.p then (if (fdR l r.p).isSome then drR l r.p else l) else l)
def dB (w : Int) (l : List Ro) (put : Bool) (r : Ro) : Bool := put && riR w r && (fdR l r.p).isSome
def dE (w : Int) (l : List Ro) (put : Bool) (r : Ro) : Int :=
  if put then (if riR w r then (if (fdR l r.p).isSome || decide (l.length < 256) then 0 else 6) else 1)
  else (if riP w r.p then (if (fdR l r.p).isSome then 0 else 2) else 1)

def isPut (x : OpR) : Bool := decide (x.kind ≤ 0)

/-- The table behind calls. -/
def tblT (w : Int) (l : List OpR) : List Ro := l.foldl (fun T x => dT w T (isPut x) x.r) []

theorem tblT_snoc (w : Int) (l : List OpR) (x : OpR) : tblT w (l ++ [x]) = dT w (tblT w l) (isPut x) x.r := by
  unfold tblT
  rw [List.foldl_append]
  rfl

theorem dT_length (w : Int) (l : List Ro) (put : Bool) (r : Ro) : (dT w l put r).length ≤ l.length + 1 := by
  have h1 : (ptR l r).length ≤ l.length + 1 := by
    unfold ptR; rw [inR_length]; have := drR_length l r.p; omega
  have h2 := drR_length l r.p
  unfold dT
  split <;> split <;> (try split) <;> omega

theorem dT_tb {w : Int} {l : List Ro} (h : TB w l) (hl : l.length < 256) (put : Bool) (r : Ro) : TB w (dT w l put r) := by
  unfold dT
  split
  · split
    · split
      · rename_i hr _
        exact ptR_tb h hl hr
      · exact h
    · exact h
  · split
    · split
      · exact drR_tb h _
      · exact h
    · exact h

theorem tblT_length (w : Int) (l : List OpR) : (tblT w l).length ≤ l.length := by
  have key : ∀ (l : List OpR) (T : List Ro), (l.foldl (fun T x => dT w T (isPut x) x.r) T).length ≤ T.length + l.length := by
    intro l
    induction l with
    | nil => intro T; simp
    | cons x l ih =>
      intro T
      rw [List.foldl_cons, List.length_cons]
      have h1 := ih (dT w T (isPut x) x.r)
      have h2 := dT_length w T (isPut x) x.r
      omega
  have := key l []
  simpa [tblT] using this

theorem TB.nil {w : Int} (hw : w = 32 ∨ w = 128) : TB w [] := ⟨hw, Nat.zero_le _, fun x hx => (by cases hx), List.Pairwise.nil⟩

theorem tblT_tb {w : Int} (hw : w = 32 ∨ w = 128) (l : List OpR) (hl : l.length ≤ 200) : TB w (tblT w l) := by
  have key : ∀ (l : List OpR) (T : List Ro), TB w T → T.length + l.length ≤ 200 → TB w (l.foldl (fun T x => dT w T (isPut x) x.r) T) := by
    intro l
    induction l with
    | nil => intro T h _; exact h
    | cons x l ih =>
      intro T h hl
      rw [List.length_cons] at hl
      rw [List.foldl_cons]
      have h2 := dT_length w T (isPut x) x.r
      exact ih _ (dT_tb h (by omega) _ _) (by omega)
  exact key l [] (.nil hw) (by simpa using hl)

end Go.Sx.M
namespace Go.Proofs.Ytfpofdlpgocnlaa.L1
open Go.Sx Go.Sx.M

/-- A call's cells. -/
def opE (x : OpR) : AV := .agg [.int .i64 x.kind, .w64 x.r.p.a, .w64 x.r.p.b, .int .i64 x.r.p.len, .int .i64 x.r.act]
def deO1 (x : AV) : OpR := ⟨cI (x.cells.getD 0 .any), ⟨⟨cW (x.cells.getD 1 .any), cW (x.cells.getD 2 .any), cI (x.cells.getD 3 .any)⟩, cI (x.cells.getD 4 .any)⟩⟩
def deO (l : List AV) : List OpR := l.map deO1
theorem deO_map (l : List OpR) : deO (l.map opE) = l := by
  unfold deO
  rw [List.map_map]
  exact List.map_id l

def pOp : Par := some (74, 5)
theorem op_whole (x : OpR) : partOf Try.prog 74 (opE x).cells 0 = some (opE x) := by kernel_rfl

theorem OpR_dec (cs : List Value) (h : fitsAll [.int .i64, .int .u64, .int .u64, .int .i64, .int .i64] cs) : ∃ x : OpR, (opE x).cells.length = 5 ∧ (opE x).sound = true ∧ AVRs [] (opE x).cells cs := by
  obtain ⟨x0, l0, rfl, f0, g0⟩ := fits_cons h
  obtain ⟨x1, l1, rfl, f1, g1⟩ := fits_cons g0
  obtain ⟨x2, l2, rfl, f2, g2⟩ := fits_cons g1
  obtain ⟨x3, l3, rfl, f3, g3⟩ := fits_cons g2
  obtain ⟨x4, l4, rfl, f4, g4⟩ := fits_cons g3
  obtain rfl := fits_nil g4
  obtain ⟨n, rfl, _⟩ := f0
  obtain ⟨v, rfl⟩ := fits_u64 f1
  obtain ⟨w, rfl⟩ := fits_u64 f2
  obtain ⟨k, rfl, _⟩ := f3
  obtain ⟨j, rfl, _⟩ := f4
  exact ⟨⟨n, ⟨⟨v, w, k⟩, j⟩⟩, rfl, rfl, .cons (.int _ _) (.cons (.w64 _) (.cons (.w64 _) (.cons (.int _ _) (.cons (.int _ _) .nil))))⟩

/-- A trie of a family, with a table. -/
def trT : TypeId := 84
def trE (w : Int) (l : List Ro) : List AV := .int .i64 w :: l.map roE

def gnew7F : List Arg → (Res → Prop) → Prop
  | [.v (.int .i64 w)], R => ((w = 32 ∨ w = 128) → R (.many [.obj trT [.int .i64 w], .v (.int .i64 0)])) ∧ (¬ (w = 32 ∨ w = 128) → R (.v (.tuple [.val (.pointer none), .int .i64 1])))
  | _, _ => False

def gput7F : List AV → List Arg → (List AV → AV → Prop) → Prop
  | .int .i64 w :: r_l, [.v (.agg [.w64 a, .w64 b, .int .i64 k, .int .i64 j])], R => r_l = (deR r_l).map roE ∧ tbR w (deR r_l) = true ∧ R (.int .i64 w :: (dT w (deR r_l) true ⟨⟨a, b, k⟩, j⟩).map roE) (.tuple [.bool (dB w (deR r_l) true ⟨⟨a, b, k⟩, j⟩), .int .i64 (dE w (deR r_l) true ⟨⟨a, b, k⟩, j⟩)])
  | _, _, _ => False

def gdrop7F : List AV → List Arg → (List AV → AV → Prop) → Prop
  | .int .i64 w :: r_l, [.v (.agg [.w64 a, .w64 b, .int .i64 k])], R => r_l = (deR r_l).map roE ∧ tbR w (deR r_l) = true ∧ R (.int .i64 w :: (dT w (deR r_l) false ⟨⟨a, b, k⟩, 0⟩).map roE) (.int .i64 (dE w (deR r_l) false ⟨⟨a, b, k⟩, 0⟩))
  | _, _, _ => False

/-- What is asked of a trie: its width, how many routes, how many nodes, the longest chain, its table. -/
def gwidth7F : List AV → List Arg → (Res → Prop) → Prop
  | .int .i64 w :: _, [], R => R (.v (.int .i64 w))
  | _, _, _ => False
def glen7F : List AV → List Arg → (Res → Prop) → Prop
  | .int .i64 w :: r_l, [], R => r_l = (deR r_l).map roE ∧ tbR w (deR r_l) = true ∧ R (.v (.int .i64 ((deR r_l).length : Int)))
  | _, _, _ => False
def gnodes7F : List AV → List Arg → (Res → Prop) → Prop
  | .int .i64 w :: r_l, [], R => r_l = (deR r_l).map roE ∧ tbR w (deR r_l) = true ∧ R (.v (.int .i64 (ndR (deR r_l))))
  | _, _, _ => False
def gchain7F : List AV → List Arg → (Res → Prop) → Prop
  | .int .i64 w :: r_l, [], R => r_l = (deR r_l).map roE ∧ tbR w (deR r_l) = true ∧ R (.v (.int .i64 (chR (deR r_l))))
  | _, _, _ => False
def gtable7F : List AV → List Arg → (Res → Prop) → Prop
  | .int .i64 w :: r_l, [], R => r_l = (deR r_l).map roE ∧ tbR w (deR r_l) = true ∧ R (.vrow 41 4 ((deR r_l).map roE))
  | _, _, _ => False

/-- A prefix's route, and the nearest one that covers it, if it may be; the best one for an address. -/
def gtO (w : Int) (l : List Ro) (p : Pf) : Option Ro := if riP w p then fdR l p else none
def cvO (w : Int) (l : List Ro) (p : Pf) : Option Ro := if riP w p then cvrR l p else none

def gget7F : List AV → List Arg → (Res → Prop) → Prop
  | .int .i64 w :: r_l, [.v (.agg [.w64 a, .w64 b, .int .i64 k])], R => r_l = (deR r_l).map roE ∧ tbR w (deR r_l) = true ∧ R (.v (.tuple [.agg [.w64 (roO (gtO w (deR r_l) ⟨a, b, k⟩)).p.a, .w64 (roO (gtO w (deR r_l) ⟨a, b, k⟩)).p.b, .int .i64 (roO (gtO w (deR r_l) ⟨a, b, k⟩)).p.len, .int .i64 (roO (gtO w (deR r_l) ⟨a, b, k⟩)).act], .bool (gtO w (deR r_l) ⟨a, b, k⟩).isSome]))
  | _, _, _ => False
def gcover7F : List AV → List Arg → (Res → Prop) → Prop
  | .int .i64 w :: r_l, [.v (.agg [.w64 a, .w64 b, .int .i64 k])], R => r_l = (deR r_l).map roE ∧ tbR w (deR r_l) = true ∧ R (.v (.tuple [.agg [.w64 (roO (cvO w (deR r_l) ⟨a, b, k⟩)).p.a, .w64 (roO (cvO w (deR r_l) ⟨a, b, k⟩)).p.b, .int .i64 (roO (cvO w (deR r_l) ⟨a, b, k⟩)).p.len, .int .i64 (roO (cvO w (deR r_l) ⟨a, b, k⟩)).act], .bool (cvO w (deR r_l) ⟨a, b, k⟩).isSome]))
  | _, _, _ => False
def gbest7F : List AV → List Arg → (Res → Prop) → Prop
  | .int .i64 w :: r_l, [.v (.agg [.w64 c, .w64 d])], R => r_l = (deR r_l).map roE ∧ tbR w (deR r_l) = true ∧ R (.v (.tuple [.agg [.w64 (roO (bsR (deR r_l) c d)).p.a, .w64 (roO (bsR (deR r_l) c d)).p.b, .int .i64 (roO (bsR (deR r_l) c d)).p.len, .int .i64 (roO (bsR (deR r_l) c d)).act], .bool (bsR (deR r_l) c d).isSome]))
  | _, _, _ => False

noncomputable def t7Cs : List (FuncId × Sx.Spec) := [(32, genSpec [none] gnew7F), (33, mutSpec trT [none] gput7F), (31, mutSpec trT [none] gdrop7F)]

noncomputable def run7Cs : List (FuncId × Sx.Spec) := (24, genSpec [none] one6F) :: (27, genSpec [pRefR, none] rrfindF) :: (54, genSpec [none, none] rrrF) :: (57, genSpec [pRefR, none] rrputF) :: (58, genSpec [pRefR, none] rrdropF) :: (25, genSpec [none, none] rightF) :: t7Cs

def rnSt (w : Int) (l : List OpR) (i : Nat) : St :=
  ⟨[.int .i64 w, .any, .any, .any, .any, .any, .any, .ptr 1 0 0 true, .any, .vsl 2 0 (tblT w (l.take i)).length, .any, .any, .any, .any, .any, .any, .any, .any, .any, .any, .any, .any, .any, .any, .any, .any, .any, .any, .any, .any, .any, .any, .any, .vsl 0 0 (l.map opE).length, .int .i64 (l.map opE).length, .int .i64 i, .any, .any, .any, .any, .any, .any, .any, .any, .any, .any, .any, .any, .any, .any, .any, .any, .any, .any, .any, .any, .any, .any, .any, .any, .any, .any, .any, .any, .any, .any, .any, .any, .any, .any, .any, .any, .any, .any, .any, .any, .any, .any, .any, .any, .any, .any, .any], [some ⟨false, 74, 5, true, l.map opE⟩, some ⟨true, trT, 0, true, .int .i64 w :: (tblT w (l.take i)).map roE⟩, some ⟨true, 48, 4, true, (tblT w (l.take i)).map roE⟩]⟩
def rnSt2 (w : Int) (l : List OpR) (i : Nat) (p : List Ro × Bool × Int) : St :=
  ⟨[.int .i64 w, .any, .any, .any, .any, .any, .any, .ptr 1 0 0 true, .any, .any, .any, .ptr 2 0 0 true, .vsl 3 0 p.1.length, .bool p.2.1, .int .i64 p.2.2, .any, .any, .any, .any, .any, .any, .any, .any, .any, .any, .any, .any, .any, .any, .any, .any, .any, .any, .vsl 0 0 (l.map opE).length, .int .i64 (l.map opE).length, .int .i64 i, .any, .any, .any, .any, .any, .any, .any, .any, .any, .any, .any, .any, .any, .any, .any, .any, .any, .any, .any, .any, .any, .any, .any, .any, .any, .any, .any, .any, .any, .any, .any, .any, .any, .any, .any, .any, .any, .any, .any, .any, .any, .any, .any, .any, .any, .any, .any], [some ⟨false, 74, 5, true, l.map opE⟩, some ⟨true, trT, 0, true, .int .i64 w :: (tblT w (l.take i)).map roE⟩, some ⟨true, 74, 5, true, [opE (at' l i)]⟩, some ⟨true, 48, 4, true, p.1.map roE⟩]⟩
def rnI2 (w : Int) (l : List OpR) (i : Nat) (p : List Ro × Bool × Int) : Prop := p = (dT w (tblT w (l.take i)) (isPut (at' l i)) (at' l i).r, dB w (tblT w (l.take i)) (isPut (at' l i)) (at' l i).r, dE w (tblT w (l.take i)) (isPut (at' l i)) (at' l i).r)
def rnM0 : Modes := ⟨[1, 0, 0, 0, 0, 0, 0, 1, 0, 1, 0, 0, 0, 0, 0, 0, 0, 0, 0, 0, 0, 0, 0, 0, 0, 0, 0, 0, 0, 0, 0, 0, 0, 1, 1, 2, 0, 0, 0, 0, 0, 0, 0, 0, 0, 0, 0, 0, 0, 0, 0, 0, 0, 0, 0, 0, 0, 0, 0, 0, 0, 0, 0, 0, 0, 0, 0, 0, 0, 0, 0, 0, 0, 0, 0, 0, 0, 0, 0, 0, 0, 0, 0], [], [], [], [(9, 48, 4)]⟩
def rnM : Modes := ⟨[1, 0, 0, 0, 0, 0, 0, 1, 0, 1, 0, 0, 0, 0, 0, 0, 0, 0, 0, 0, 0, 0, 0, 0, 0, 0, 0, 0, 0, 0, 0, 0, 0, 1, 1, 1, 0, 0, 0, 0, 0, 0, 0, 0, 0, 0, 0, 0, 0, 0, 0, 0, 0, 0, 0, 0, 0, 0, 0, 0, 0, 0, 0, 0, 0, 0, 0, 0, 0, 0, 0, 0, 0, 0, 0, 0, 0, 0, 0, 0, 0, 0, 0], [], [], [], []⟩
def rnM' : Modes := ⟨[0, 0, 0, 0, 1, 1, 1, 1, 0, 1, 0, 0, 0, 0, 0, 0, 0, 0, 0, 0, 0, 0, 0, 0, 0, 0, 0, 0, 0, 0, 0, 0, 0, 0, 0, 0, 0, 0, 0, 0, 0, 0, 0, 0, 0, 0, 0, 0, 0, 0, 0, 0, 0, 0, 0, 0, 0, 0, 0, 0, 0, 0, 0, 0, 0, 0, 0, 0, 0, 0, 0, 0, 0, 0, 0, 0, 0, 0, 0, 0, 0, 0, 0], [], [], [], []⟩
def rnMM : Modes := ⟨[1, 0, 0, 0, 0, 0, 0, 1, 0, 0, 0, 1, 1, 2, 2, 0, 0, 0, 0, 0, 0, 0, 0, 0, 0, 0, 0, 0, 0, 0, 0, 0, 0, 1, 1, 1, 0, 0, 0, 0, 0, 0, 0, 0, 0, 0, 0, 0, 0, 0, 0, 0, 0, 0, 0, 0, 0, 0, 0, 0, 0, 0, 0, 0, 0, 0, 0, 0, 0, 0, 0, 0, 0, 0, 0, 0, 0, 0, 0, 0, 0, 0, 0], [], [], [], []⟩
def rnH (w : Int) (l : List OpR) : List Hint := [.br false, .br false, .br false, .linv _ 0 (rnSt w l) (fun i => i ≤ l.length) (fun i => l.length + 1 - i) rnM0 rnM rnM' (fun _ => []) fun i =>
  [.fork [.dy, .cell (opE (at' l i)), .mrg true (List Ro × Bool × Int) (rnSt2 w l i) (rnI2 w l i) rnMM [.fork [.fork [] [.fork [.fork [] []] []]] [.fork [] [.fork [] []]]] (fun _ => []),
    .fork [.fork [] [.fork [] [.nw]]] [.fork [] [.nw]]] []]]

def run7F : List Arg → (Res → Prop) → Prop
  | [.v (.int .i64 w), .row r_l], R => r_l = (deO r_l).map opE ∧ (deO r_l).length ≤ 14 ∧ (w = 32 ∨ w = 128) ∧ R (.many [.obj trT (.int .i64 w :: (tblT w (deO r_l)).map roE), .vrow 48 4 ((tblT w (deO r_l)).map roE), .v (.bool true)])
  | _, _ => False

theorem run7_run (w : Int) (l : List OpR) : run run7Cs Try.prog 11 [.int .i64 w, .vsl 0 0 (l.map opE).length] [some ⟨false, 74, 5, true, l.map opE⟩] (rnH w l) (yields (.many [.obj trT (.int .i64 w :: (tblT w l).map roE), .vrow 48 4 ((tblT w l).map roE), .v (.bool true)])) =
    ((w = (32 : Int) ∨ w = (128 : Int) → ((0 : Int) != (0 : Int)) = false ∧ false = false ∧ Decidable.decide ((↑(List.length (List.map opE l)) : Int) > (14 : Int)) = false ∧ (St.mk [AV.int IntKind.i64 w, AV.any, AV.any, AV.any, AV.any, AV.any, AV.any, AV.ptr ((0 : Nat) + (1 : Nat)) (0 : Nat) (0 : Nat) true, AV.any, AV.vsl (List.length [some (Blk.mk false (74 : TypeId) (5 : Nat) true (List.map opE l)), some (Blk.mk true (nat_lit 84) (0 : Nat) true [AV.int IntKind.i64 w])]) (0 : Nat) (0 : Nat), AV.any, AV.any, AV.any, AV.any, AV.any, AV.any, AV.any, AV.any, AV.any, AV.any, AV.any, AV.any, AV.any, AV.any, AV.any, AV.any, AV.any, AV.any, AV.any, AV.any, AV.any, AV.any, AV.any, AV.vsl (0 : Nat) (0 : Nat) (List.length (List.map opE l)), AV.int IntKind.i64 (↑(List.length (List.map opE l)) : Int), AV.int IntKind.i64 (0 : Int), AV.any, AV.any, AV.any, AV.any, AV.any, AV.any, AV.any, AV.any, AV.any, AV.any, AV.any, AV.any, AV.any, AV.any, AV.any, AV.any, AV.any, AV.any, AV.any, AV.any, AV.any, AV.any, AV.any, AV.any, AV.any, AV.any, AV.any, AV.any, AV.any, AV.any, AV.any, AV.any, AV.any, AV.any, AV.any, AV.any, AV.any, AV.any, AV.any, AV.any, AV.any, AV.any, AV.any, AV.any, AV.any, AV.any, AV.any] ([some (Blk.mk false (74 : TypeId) (5 : Nat) true (List.map opE l)), some (Blk.mk true (nat_lit 84) (0 : Nat) true [AV.int IntKind.i64 w])] ++ [some (Blk.mk true (48 : TypeId) (4 : Nat) true [])]) = rnSt w l (0 : Nat) ∧ Nat.le (0 : Nat) (List.length l)) ∧ ∀ (p : Nat), Nat.le p (List.length l) → (Decidable.decide ((↑p : Int) < (↑(List.length (List.map opE l)) : Int)) = true → ((0 : Int) ≤ (↑p : Int) ∧ (↑p : Int) < (↑(List.length (List.map opE l)) : Int)) ∧ Blk.read Proofs.Try.prog (Blk.mk false (74 : TypeId) (5 : Nat) true (List.map opE l)) (74 : Nat) ((0 : Nat) + Int.toNat (↑p : Int)) (0 : Nat) = some (AV.agg [AV.int IntKind.i64 (at' l p).1, AV.w64 (Ro.p (OpR.r (at' l p))).1, AV.w64 (Ro.p (OpR.r (at' l p))).2, AV.int IntKind.i64 (Ro.p (OpR.r (at' l p))).3, AV.int IntKind.i64 (OpR.r (at' l p)).2]) ∧ ((0 : Nat) + List.length (tblT w (List.take p l)) ≤ List.length (List.map roE (tblT w (List.take p l))) ∧ List.take (List.length (tblT w (List.take p l))) (List.drop (0 : Nat) (List.map roE (tblT w (List.take p l)))) = List.map roE (deR (List.take (List.length (tblT w (List.take p l))) (List.drop (0 : Nat) (List.map roE (tblT w (List.take p l)))))) ∧ List.length (deR (List.take (List.length (tblT w (List.take p l))) (List.drop (0 : Nat) (List.map roE (tblT w (List.take p l)))))) ≤ (9223372036854775807 : Nat) ∧ (((if (1 : Int) < if (0 : Int) > (at' l p).1 then (0 : Int) else (at' l p).1 then (1 : Int) else if (0 : Int) > (at' l p).1 then (0 : Int) else (at' l p).1) == (0 : Int)) = true → ((!riR w (Ro.mk (Pf.mk (Ro.p (OpR.r (at' l p))).1 (Ro.p (OpR.r (at' l p))).2 (Ro.p (OpR.r (at' l p))).3) (OpR.r (at' l p)).2)) = true → ∃ (p_1 : List Ro × Bool × Int), St.mk [AV.int IntKind.i64 w, AV.any, AV.any, AV.any, AV.any, AV.any, AV.any, AV.ptr ((0 : Nat) + (1 : Nat)) (0 : Nat) (0 : Nat) true, AV.any, AV.any, AV.any, AV.ptr ((0 : Nat) + (1 : Nat) + (1 : Nat)) (0 : Nat) (0 : Nat) true, AV.vsl ((0 : Nat) + (1 : Nat) + (1 : Nat) + (1 : Nat)) (0 : Nat) (List.length (tblT w (List.take p l))), AV.bool false, AV.int IntKind.i64 (1 : Int), AV.any, AV.any, AV.any, AV.any, AV.any, AV.any, AV.any, AV.any, AV.any, AV.any, AV.any, AV.any, AV.any, AV.any, AV.any, AV.any, AV.any, AV.any, AV.vsl (0 : Nat) (0 : Nat) (List.length (List.map opE l)), AV.int IntKind.i64 (↑(List.length (List.map opE l)) : Int), AV.int IntKind.i64 (↑p : Int), AV.any, AV.any, AV.any, AV.any, AV.any, AV.any, AV.any, AV.any, AV.any, AV.any, AV.any, AV.any, AV.any, AV.any, AV.any, AV.any, AV.any, AV.any, AV.any, AV.any, AV.any, AV.any, AV.any, AV.any, AV.any, AV.any, AV.any, AV.any, AV.any, AV.any, AV.any, AV.any, AV.any, AV.any, AV.any, AV.any, AV.any, AV.any, AV.any, AV.any, AV.any, AV.any, AV.any, AV.any, AV.any, AV.any, AV.any] [some (Blk.mk false (74 : TypeId) (5 : Nat) true (List.map opE l)), some (Blk.mk true (nat_lit 84) (0 : Nat) true (AV.int IntKind.i64 w :: List.map roE (tblT w (List.take p l)))), some (Blk.write (Blk.mk true (74 : Nat) (5 : Nat) true [AV.agg [AV.lit (Value.int IntKind.i64 (0 : Int)), AV.lit (Value.int IntKind.u64 (0 : Int)), AV.lit (Value.int IntKind.u64 (0 : Int)), AV.lit (Value.int IntKind.i64 (0 : Int)), AV.lit (Value.int IntKind.i64 (0 : Int))]]) (0 : Nat) (0 : Nat) (AV.agg [AV.int IntKind.i64 (at' l p).1, AV.w64 (Ro.p (OpR.r (at' l p))).1, AV.w64 (Ro.p (OpR.r (at' l p))).2, AV.int IntKind.i64 (Ro.p (OpR.r (at' l p))).3, AV.int IntKind.i64 (OpR.r (at' l p)).2])), some (Blk.mk true (48 : TypeId) (4 : Nat) true (List.map roE (tblT w (List.take p l))))] = rnSt2 w l p p_1 ∧ rnI2 w l p p_1) ∧ ((!riR w (Ro.mk (Pf.mk (Ro.p (OpR.r (at' l p))).1 (Ro.p (OpR.r (at' l p))).2 (Ro.p (OpR.r (at' l p))).3) (OpR.r (at' l p)).2)) = false → ((!Option.isSome (fdR (deR (List.take (List.length (tblT w (List.take p l))) (List.drop (0 : Nat) (List.map roE (tblT w (List.take p l)))))) (Pf.mk (Ro.p (OpR.r (at' l p))).1 (Ro.p (OpR.r (at' l p))).2 (Ro.p (OpR.r (at' l p))).3))) = true → (Decidable.decide ((↑(List.length (tblT w (List.take p l))) : Int) ≥ (256 : Int)) = true → ∃ (p_1 : List Ro × Bool × Int), St.mk [AV.int IntKind.i64 w, AV.any, AV.any, AV.any, AV.any, AV.any, AV.any, AV.ptr ((0 : Nat) + (1 : Nat)) (0 : Nat) (0 : Nat) true, AV.any, AV.any, AV.any, AV.ptr ((0 : Nat) + (1 : Nat) + (1 : Nat)) (0 : Nat) (0 : Nat) true, AV.vsl ((0 : Nat) + (1 : Nat) + (1 : Nat) + (1 : Nat)) (0 : Nat) (List.length (tblT w (List.take p l))), AV.bool false, AV.int IntKind.i64 (6 : Int), AV.any, AV.any, AV.any, AV.any, AV.any, AV.any, AV.any, AV.any, AV.any, AV.any, AV.any, AV.any, AV.any, AV.any, AV.any, AV.any, AV.any, AV.any, AV.vsl (0 : Nat) (0 : Nat) (List.length (List.map opE l)), AV.int IntKind.i64 (↑(List.length (List.map opE l)) : Int), AV.int IntKind.i64 (↑p : Int), AV.any, AV.any, AV.any, AV.any, AV.any, AV.any, AV.any, AV.any, AV.any, AV.any, AV.any, AV.any, AV.any, AV.any, AV.any, AV.any, AV.any, AV.any, AV.any, AV.any, AV.any, AV.any, AV.any, AV.any, AV.any, AV.any, AV.any, AV.any, AV.any, AV.any, AV.any, AV.any, AV.any, AV.any, AV.any, AV.any, AV.any, AV.any, AV.any, AV.any, AV.any, AV.any, AV.any, AV.any, AV.any, AV.any, AV.any] [some (Blk.mk false (74 : TypeId) (5 : Nat) true (List.map opE l)), some (Blk.mk true (nat_lit 84) (0 : Nat) true (AV.int IntKind.i64 w :: List.map roE (tblT w (List.take p l)))), some (Blk.write (Blk.mk true (74 : Nat) (5 : Nat) true [AV.agg [AV.lit (Value.int IntKind.i64 (0 : Int)), AV.lit (Value.int IntKind.u64 (0 : Int)), AV.lit (Value.int IntKind.u64 (0 : Int)), AV.lit (Value.int IntKind.i64 (0 : Int)), AV.lit (Value.int IntKind.i64 (0 : Int))]]) (0 : Nat) (0 : Nat) (AV.agg [AV.int IntKind.i64 (at' l p).1, AV.w64 (Ro.p (OpR.r (at' l p))).1, AV.w64 (Ro.p (OpR.r (at' l p))).2, AV.int IntKind.i64 (Ro.p (OpR.r (at' l p))).3, AV.int IntKind.i64 (OpR.r (at' l p)).2])), some (Blk.mk true (48 : TypeId) (4 : Nat) true (List.map roE (tblT w (List.take p l))))] = rnSt2 w l p p_1 ∧ rnI2 w l p p_1) ∧ (Decidable.decide ((↑(List.length (tblT w (List.take p l))) : Int) ≥ (256 : Int)) = false → (0 : Nat) + List.length (tblT w (List.take p l)) ≤ List.length (List.map roE (tblT w (List.take p l))) ∧ List.take (List.length (tblT w (List.take p l))) (List.drop (0 : Nat) (List.map roE (tblT w (List.take p l)))) = List.map roE (deR (List.take (List.length (tblT w (List.take p l))) (List.drop (0 : Nat) (List.map roE (tblT w (List.take p l)))))) ∧ List.length (deR (List.take (List.length (tblT w (List.take p l))) (List.drop (0 : Nat) (List.map roE (tblT w (List.take p l)))))) ≤ (1000000 : Nat) ∧ ∃ (p_1 : List Ro × Bool × Int), St.mk [AV.int IntKind.i64 w, AV.any, AV.any, AV.any, AV.any, AV.any, AV.any, AV.ptr ((0 : Nat) + (1 : Nat)) (0 : Nat) (0 : Nat) true, AV.any, AV.any, AV.any, AV.ptr ((0 : Nat) + (1 : Nat) + (1 : Nat)) (0 : Nat) (0 : Nat) true, AV.vsl ((0 : Nat) + (1 : Nat) + (1 : Nat) + (1 : Nat)) (0 : Nat) (List.length (List.map roE (ptR (deR (List.take (List.length (tblT w (List.take p l))) (List.drop (0 : Nat) (List.map roE (tblT w (List.take p l)))))) (Ro.mk (Pf.mk (Ro.p (OpR.r (at' l p))).1 (Ro.p (OpR.r (at' l p))).2 (Ro.p (OpR.r (at' l p))).3) (OpR.r (at' l p)).2)))), AV.bool (Option.isSome (fdR (deR (List.take (List.length (tblT w (List.take p l))) (List.drop (0 : Nat) (List.map roE (tblT w (List.take p l)))))) (Pf.mk (Ro.p (OpR.r (at' l p))).1 (Ro.p (OpR.r (at' l p))).2 (Ro.p (OpR.r (at' l p))).3))), AV.int IntKind.i64 (0 : Int), AV.any, AV.any, AV.any, AV.any, AV.any, AV.any, AV.any, AV.any, AV.any, AV.any, AV.any, AV.any, AV.any, AV.any, AV.any, AV.any, AV.any, AV.any, AV.vsl (0 : Nat) (0 : Nat) (List.length (List.map opE l)), AV.int IntKind.i64 (↑(List.length (List.map opE l)) : Int), AV.int IntKind.i64 (↑p : Int), AV.any, AV.any, AV.any, AV.any, AV.any, AV.any, AV.any, AV.any, AV.any, AV.any, AV.any, AV.any, AV.any, AV.any, AV.any, AV.any, AV.any, AV.any, AV.any, AV.any, AV.any, AV.any, AV.any, AV.any, AV.any, AV.any, AV.any, AV.any, AV.any, AV.any, AV.any, AV.any, AV.any, AV.any, AV.any, AV.any, AV.any, AV.any, AV.any, AV.any, AV.any, AV.any, AV.any, AV.any, AV.any, AV.any, AV.any] [some (Blk.mk false (74 : TypeId) (5 : Nat) true (List.map opE l)), some (Blk.mk true (nat_lit 84) (0 : Nat) true (AV.int IntKind.i64 w :: List.map roE (tblT w (List.take p l)))), some (Blk.write (Blk.mk true (74 : Nat) (5 : Nat) true [AV.agg [AV.lit (Value.int IntKind.i64 (0 : Int)), AV.lit (Value.int IntKind.u64 (0 : Int)), AV.lit (Value.int IntKind.u64 (0 : Int)), AV.lit (Value.int IntKind.i64 (0 : Int)), AV.lit (Value.int IntKind.i64 (0 : Int))]]) (0 : Nat) (0 : Nat) (AV.agg [AV.int IntKind.i64 (at' l p).1, AV.w64 (Ro.p (OpR.r (at' l p))).1, AV.w64 (Ro.p (OpR.r (at' l p))).2, AV.int IntKind.i64 (Ro.p (OpR.r (at' l p))).3, AV.int IntKind.i64 (OpR.r (at' l p)).2])), some (Blk.mk true (48 : TypeId) (4 : Nat) true (List.map roE (ptR (deR (List.take (List.length (tblT w (List.take p l))) (List.drop (0 : Nat) (List.map roE (tblT w (List.take p l)))))) (Ro.mk (Pf.mk (Ro.p (OpR.r (at' l p))).1 (Ro.p (OpR.r (at' l p))).2 (Ro.p (OpR.r (at' l p))).3) (OpR.r (at' l p)).2))))] = rnSt2 w l p p_1 ∧ rnI2 w l p p_1)) ∧ ((!Option.isSome (fdR (deR (List.take (List.length (tblT w (List.take p l))) (List.drop (0 : Nat) (List.map roE (tblT w (List.take p l)))))) (Pf.mk (Ro.p (OpR.r (at' l p))).1 (Ro.p (OpR.r (at' l p))).2 (Ro.p (OpR.r (at' l p))).3))) = false → (0 : Nat) + List.length (tblT w (List.take p l)) ≤ List.length (List.map roE (tblT w (List.take p l))) ∧ List.take (List.length (tblT w (List.take p l))) (List.drop (0 : Nat) (List.map roE (tblT w (List.take p l)))) = List.map roE (deR (List.take (List.length (tblT w (List.take p l))) (List.drop (0 : Nat) (List.map roE (tblT w (List.take p l)))))) ∧ List.length (deR (List.take (List.length (tblT w (List.take p l))) (List.drop (0 : Nat) (List.map roE (tblT w (List.take p l)))))) ≤ (1000000 : Nat) ∧ ∃ (p_1 : List Ro × Bool × Int), St.mk [AV.int IntKind.i64 w, AV.any, AV.any, AV.any, AV.any, AV.any, AV.any, AV.ptr ((0 : Nat) + (1 : Nat)) (0 : Nat) (0 : Nat) true, AV.any, AV.any, AV.any, AV.ptr ((0 : Nat) + (1 : Nat) + (1 : Nat)) (0 : Nat) (0 : Nat) true, AV.vsl ((0 : Nat) + (1 : Nat) + (1 : Nat) + (1 : Nat)) (0 : Nat) (List.length (List.map roE (ptR (deR (List.take (List.length (tblT w (List.take p l))) (List.drop (0 : Nat) (List.map roE (tblT w (List.take p l)))))) (Ro.mk (Pf.mk (Ro.p (OpR.r (at' l p))).1 (Ro.p (OpR.r (at' l p))).2 (Ro.p (OpR.r (at' l p))).3) (OpR.r (at' l p)).2)))), AV.bool (Option.isSome (fdR (deR (List.take (List.length (tblT w (List.take p l))) (List.drop (0 : Nat) (List.map roE (tblT w (List.take p l)))))) (Pf.mk (Ro.p (OpR.r (at' l p))).1 (Ro.p (OpR.r (at' l p))).2 (Ro.p (OpR.r (at' l p))).3))), AV.int IntKind.i64 (0 : Int), AV.any, AV.any, AV.any, AV.any, AV.any, AV.any, AV.any, AV.any, AV.any, AV.any, AV.any, AV.any, AV.any, AV.any, AV.any, AV.any, AV.any, AV.any, AV.vsl (0 : Nat) (0 : Nat) (List.length (List.map opE l)), AV.int IntKind.i64 (↑(List.length (List.map opE l)) : Int), AV.int IntKind.i64 (↑p : Int), AV.any, AV.any, AV.any, AV.any, AV.any, AV.any, AV.any, AV.any, AV.any, AV.any, AV.any, AV.any, AV.any, AV.any, AV.any, AV.any, AV.any, AV.any, AV.any, AV.any, AV.any, AV.any, AV.any, AV.any, AV.any, AV.any, AV.any, AV.any, AV.any, AV.any, AV.any, AV.any, AV.any, AV.any, AV.any, AV.any, AV.any, AV.any, AV.any, AV.any, AV.any, AV.any, AV.any, AV.any, AV.any, AV.any, AV.any] [some (Blk.mk false (74 : TypeId) (5 : Nat) true (List.map opE l)), some (Blk.mk true (nat_lit 84) (0 : Nat) true (AV.int IntKind.i64 w :: List.map roE (tblT w (List.take p l)))), some (Blk.write (Blk.mk true (74 : Nat) (5 : Nat) true [AV.agg [AV.lit (Value.int IntKind.i64 (0 : Int)), AV.lit (Value.int IntKind.u64 (0 : Int)), AV.lit (Value.int IntKind.u64 (0 : Int)), AV.lit (Value.int IntKind.i64 (0 : Int)), AV.lit (Value.int IntKind.i64 (0 : Int))]]) (0 : Nat) (0 : Nat) (AV.agg [AV.int IntKind.i64 (at' l p).1, AV.w64 (Ro.p (OpR.r (at' l p))).1, AV.w64 (Ro.p (OpR.r (at' l p))).2, AV.int IntKind.i64 (Ro.p (OpR.r (at' l p))).3, AV.int IntKind.i64 (OpR.r (at' l p)).2])), some (Blk.mk true (48 : TypeId) (4 : Nat) true (List.map roE (ptR (deR (List.take (List.length (tblT w (List.take p l))) (List.drop (0 : Nat) (List.map roE (tblT w (List.take p l)))))) (Ro.mk (Pf.mk (Ro.p (OpR.r (at' l p))).1 (Ro.p (OpR.r (at' l p))).2 (Ro.p (OpR.r (at' l p))).3) (OpR.r (at' l p)).2))))] = rnSt2 w l p p_1 ∧ rnI2 w l p p_1))) ∧ (((if (1 : Int) < if (0 : Int) > (at' l p).1 then (0 : Int) else (at' l p).1 then (1 : Int) else if (0 : Int) > (at' l p).1 then (0 : Int) else (at' l p).1) == (0 : Int)) = false → ((!rightB w (Ro.p (OpR.r (at' l p))).1 (Ro.p (OpR.r (at' l p))).2 (Ro.p (OpR.r (at' l p))).3) = true → ∃ (p_1 : List Ro × Bool × Int), St.mk [AV.int IntKind.i64 w, AV.any, AV.any, AV.any, AV.any, AV.any, AV.any, AV.ptr ((0 : Nat) + (1 : Nat)) (0 : Nat) (0 : Nat) true, AV.any, AV.any, AV.any, AV.ptr ((0 : Nat) + (1 : Nat) + (1 : Nat)) (0 : Nat) (0 : Nat) true, AV.vsl ((0 : Nat) + (1 : Nat) + (1 : Nat) + (1 : Nat)) (0 : Nat) (List.length (tblT w (List.take p l))), AV.bool false, AV.int IntKind.i64 (1 : Int), AV.any, AV.any, AV.any, AV.any, AV.any, AV.any, AV.any, AV.any, AV.any, AV.any, AV.any, AV.any, AV.any, AV.any, AV.any, AV.any, AV.any, AV.any, AV.vsl (0 : Nat) (0 : Nat) (List.length (List.map opE l)), AV.int IntKind.i64 (↑(List.length (List.map opE l)) : Int), AV.int IntKind.i64 (↑p : Int), AV.any, AV.any, AV.any, AV.any, AV.any, AV.any, AV.any, AV.any, AV.any, AV.any, AV.any, AV.any, AV.any, AV.any, AV.any, AV.any, AV.any, AV.any, AV.any, AV.any, AV.any, AV.any, AV.any, AV.any, AV.any, AV.any, AV.any, AV.any, AV.any, AV.any, AV.any, AV.any, AV.any, AV.any, AV.any, AV.any, AV.any, AV.any, AV.any, AV.any, AV.any, AV.any, AV.any, AV.any, AV.any, AV.any, AV.any] [some (Blk.mk false (74 : TypeId) (5 : Nat) true (List.map opE l)), some (Blk.mk true (nat_lit 84) (0 : Nat) true (AV.int IntKind.i64 w :: List.map roE (tblT w (List.take p l)))), some (Blk.write (Blk.mk true (74 : Nat) (5 : Nat) true [AV.agg [AV.lit (Value.int IntKind.i64 (0 : Int)), AV.lit (Value.int IntKind.u64 (0 : Int)), AV.lit (Value.int IntKind.u64 (0 : Int)), AV.lit (Value.int IntKind.i64 (0 : Int)), AV.lit (Value.int IntKind.i64 (0 : Int))]]) (0 : Nat) (0 : Nat) (AV.agg [AV.int IntKind.i64 (at' l p).1, AV.w64 (Ro.p (OpR.r (at' l p))).1, AV.w64 (Ro.p (OpR.r (at' l p))).2, AV.int IntKind.i64 (Ro.p (OpR.r (at' l p))).3, AV.int IntKind.i64 (OpR.r (at' l p)).2])), some (Blk.mk true (48 : TypeId) (4 : Nat) true (List.map roE (tblT w (List.take p l))))] = rnSt2 w l p p_1 ∧ rnI2 w l p p_1) ∧ ((!rightB w (Ro.p (OpR.r (at' l p))).1 (Ro.p (OpR.r (at' l p))).2 (Ro.p (OpR.r (at' l p))).3) = false → ((!Option.isSome (fdR (deR (List.take (List.length (tblT w (List.take p l))) (List.drop (0 : Nat) (List.map roE (tblT w (List.take p l)))))) (Pf.mk (Ro.p (OpR.r (at' l p))).1 (Ro.p (OpR.r (at' l p))).2 (Ro.p (OpR.r (at' l p))).3))) = true → ∃ (p_1 : List Ro × Bool × Int), St.mk [AV.int IntKind.i64 w, AV.any, AV.any, AV.any, AV.any, AV.any, AV.any, AV.ptr ((0 : Nat) + (1 : Nat)) (0 : Nat) (0 : Nat) true, AV.any, AV.any, AV.any, AV.ptr ((0 : Nat) + (1 : Nat) + (1 : Nat)) (0 : Nat) (0 : Nat) true, AV.vsl ((0 : Nat) + (1 : Nat) + (1 : Nat) + (1 : Nat)) (0 : Nat) (List.length (tblT w (List.take p l))), AV.bool false, AV.int IntKind.i64 (2 : Int), AV.any, AV.any, AV.any, AV.any, AV.any, AV.any, AV.any, AV.any, AV.any, AV.any, AV.any, AV.any, AV.any, AV.any, AV.any, AV.any, AV.any, AV.any, AV.vsl (0 : Nat) (0 : Nat) (List.length (List.map opE l)), AV.int IntKind.i64 (↑(List.length (List.map opE l)) : Int), AV.int IntKind.i64 (↑p : Int), AV.any, AV.any, AV.any, AV.any, AV.any, AV.any, AV.any, AV.any, AV.any, AV.any, AV.any, AV.any, AV.any, AV.any, AV.any, AV.any, AV.any, AV.any, AV.any, AV.any, AV.any, AV.any, AV.any, AV.any, AV.any, AV.any, AV.any, AV.any, AV.any, AV.any, AV.any, AV.any, AV.any, AV.any, AV.any, AV.any, AV.any, AV.any, AV.any, AV.any, AV.any, AV.any, AV.any, AV.any, AV.any, AV.any, AV.any] [some (Blk.mk false (74 : TypeId) (5 : Nat) true (List.map opE l)), some (Blk.mk true (nat_lit 84) (0 : Nat) true (AV.int IntKind.i64 w :: List.map roE (tblT w (List.take p l)))), some (Blk.write (Blk.mk true (74 : Nat) (5 : Nat) true [AV.agg [AV.lit (Value.int IntKind.i64 (0 : Int)), AV.lit (Value.int IntKind.u64 (0 : Int)), AV.lit (Value.int IntKind.u64 (0 : Int)), AV.lit (Value.int IntKind.i64 (0 : Int)), AV.lit (Value.int IntKind.i64 (0 : Int))]]) (0 : Nat) (0 : Nat) (AV.agg [AV.int IntKind.i64 (at' l p).1, AV.w64 (Ro.p (OpR.r (at' l p))).1, AV.w64 (Ro.p (OpR.r (at' l p))).2, AV.int IntKind.i64 (Ro.p (OpR.r (at' l p))).3, AV.int IntKind.i64 (OpR.r (at' l p)).2])), some (Blk.mk true (48 : TypeId) (4 : Nat) true (List.map roE (tblT w (List.take p l))))] = rnSt2 w l p p_1 ∧ rnI2 w l p p_1) ∧ ((!Option.isSome (fdR (deR (List.take (List.length (tblT w (List.take p l))) (List.drop (0 : Nat) (List.map roE (tblT w (List.take p l)))))) (Pf.mk (Ro.p (OpR.r (at' l p))).1 (Ro.p (OpR.r (at' l p))).2 (Ro.p (OpR.r (at' l p))).3))) = false → (0 : Nat) + List.length (tblT w (List.take p l)) ≤ List.length (List.map roE (tblT w (List.take p l))) ∧ List.take (List.length (tblT w (List.take p l))) (List.drop (0 : Nat) (List.map roE (tblT w (List.take p l)))) = List.map roE (deR (List.take (List.length (tblT w (List.take p l))) (List.drop (0 : Nat) (List.map roE (tblT w (List.take p l)))))) ∧ List.length (deR (List.take (List.length (tblT w (List.take p l))) (List.drop (0 : Nat) (List.map roE (tblT w (List.take p l)))))) ≤ (1000000 : Nat) ∧ ∃ (p_1 : List Ro × Bool × Int), St.mk [AV.int IntKind.i64 w, AV.any, AV.any, AV.any, AV.any, AV.any, AV.any, AV.ptr ((0 : Nat) + (1 : Nat)) (0 : Nat) (0 : Nat) true, AV.any, AV.any, AV.any, AV.ptr ((0 : Nat) + (1 : Nat) + (1 : Nat)) (0 : Nat) (0 : Nat) true, AV.vsl ((0 : Nat) + (1 : Nat) + (1 : Nat) + (1 : Nat)) (0 : Nat) (List.length (List.map roE (drR (deR (List.take (List.length (tblT w (List.take p l))) (List.drop (0 : Nat) (List.map roE (tblT w (List.take p l)))))) (Pf.mk (Ro.p (OpR.r (at' l p))).1 (Ro.p (OpR.r (at' l p))).2 (Ro.p (OpR.r (at' l p))).3)))), AV.bool false, AV.int IntKind.i64 (0 : Int), AV.any, AV.any, AV.any, AV.any, AV.any, AV.any, AV.any, AV.any, AV.any, AV.any, AV.any, AV.any, AV.any, AV.any, AV.any, AV.any, AV.any, AV.any, AV.vsl (0 : Nat) (0 : Nat) (List.length (List.map opE l)), AV.int IntKind.i64 (↑(List.length (List.map opE l)) : Int), AV.int IntKind.i64 (↑p : Int), AV.any, AV.any, AV.any, AV.any, AV.any, AV.any, AV.any, AV.any, AV.any, AV.any, AV.any, AV.any, AV.any, AV.any, AV.any, AV.any, AV.any, AV.any, AV.any, AV.any, AV.any, AV.any, AV.any, AV.any, AV.any, AV.any, AV.any, AV.any, AV.any, AV.any, AV.any, AV.any, AV.any, AV.any, AV.any, AV.any, AV.any, AV.any, AV.any, AV.any, AV.any, AV.any, AV.any, AV.any, AV.any, AV.any, AV.any] [some (Blk.mk false (74 : TypeId) (5 : Nat) true (List.map opE l)), some (Blk.mk true (nat_lit 84) (0 : Nat) true (AV.int IntKind.i64 w :: List.map roE (tblT w (List.take p l)))), some (Blk.write (Blk.mk true (74 : Nat) (5 : Nat) true [AV.agg [AV.lit (Value.int IntKind.i64 (0 : Int)), AV.lit (Value.int IntKind.u64 (0 : Int)), AV.lit (Value.int IntKind.u64 (0 : Int)), AV.lit (Value.int IntKind.i64 (0 : Int)), AV.lit (Value.int IntKind.i64 (0 : Int))]]) (0 : Nat) (0 : Nat) (AV.agg [AV.int IntKind.i64 (at' l p).1, AV.w64 (Ro.p (OpR.r (at' l p))).1, AV.w64 (Ro.p (OpR.r (at' l p))).2, AV.int IntKind.i64 (Ro.p (OpR.r (at' l p))).3, AV.int IntKind.i64 (OpR.r (at' l p)).2])), some (Blk.mk true (48 : TypeId) (4 : Nat) true (List.map roE (drR (deR (List.take (List.length (tblT w (List.take p l))) (List.drop (0 : Nat) (List.map roE (tblT w (List.take p l)))))) (Pf.mk (Ro.p (OpR.r (at' l p))).1 (Ro.p (OpR.r (at' l p))).2 (Ro.p (OpR.r (at' l p))).3))))] = rnSt2 w l p p_1 ∧ rnI2 w l p p_1)))) ∧ ∀ (p_1 : List Ro × Bool × Int), rnI2 w l p p_1 → (Decidable.decide ((at' l p).1 ≤ (0 : Int)) = true → List.map roE (tblT w (List.take p l)) = List.map roE (deR (List.map roE (tblT w (List.take p l)))) ∧ tbR w (deR (List.map roE (tblT w (List.take p l)))) = true ∧ ((!dB w (deR (List.map roE (tblT w (List.take p l)))) true (Ro.mk (Pf.mk (Ro.p (OpR.r (at' l p))).1 (Ro.p (OpR.r (at' l p))).2 (Ro.p (OpR.r (at' l p))).3) (OpR.r (at' l p)).2) == (Prod.snd p_1).1) = true → False) ∧ ((!dB w (deR (List.map roE (tblT w (List.take p l)))) true (Ro.mk (Pf.mk (Ro.p (OpR.r (at' l p))).1 (Ro.p (OpR.r (at' l p))).2 (Ro.p (OpR.r (at' l p))).3) (OpR.r (at' l p)).2) == (Prod.snd p_1).1) = false → ((dE w (deR (List.map roE (tblT w (List.take p l)))) true (Ro.mk (Pf.mk (Ro.p (OpR.r (at' l p))).1 (Ro.p (OpR.r (at' l p))).2 (Ro.p (OpR.r (at' l p))).3) (OpR.r (at' l p)).2) != (Prod.snd p_1).2) = true → False) ∧ ((dE w (deR (List.map roE (tblT w (List.take p l)))) true (Ro.mk (Pf.mk (Ro.p (OpR.r (at' l p))).1 (Ro.p (OpR.r (at' l p))).2 (Ro.p (OpR.r (at' l p))).3) (OpR.r (at' l p)).2) != (Prod.snd p_1).2) = false → inRange IntKind.i64 ((↑p : Int) + (1 : Int)) ∧ ∃ (p' : Nat), St.mk [AV.int IntKind.i64 w, AV.any, AV.any, AV.any, AV.any, AV.any, AV.any, AV.ptr ((0 : Nat) + (1 : Nat)) (0 : Nat) (0 : Nat) true, AV.any, AV.vsl ((0 : Nat) + (1 : Nat) + (1 : Nat)) (0 : Nat) (List.length p_1.1), AV.any, AV.any, AV.any, AV.any, AV.any, AV.any, AV.any, AV.any, AV.any, AV.any, AV.any, AV.any, AV.any, AV.any, AV.any, AV.any, AV.any, AV.any, AV.any, AV.any, AV.any, AV.any, AV.any, AV.vsl (0 : Nat) (0 : Nat) (List.length (List.map opE l)), AV.int IntKind.i64 (↑(List.length (List.map opE l)) : Int), AV.int IntKind.i64 ((↑p : Int) + (1 : Int)), AV.any, AV.any, AV.any, AV.any, AV.any, AV.any, AV.any, AV.any, AV.any, AV.any, AV.any, AV.any, AV.any, AV.any, AV.any, AV.any, AV.any, AV.any, AV.any, AV.any, AV.any, AV.any, AV.any, AV.any, AV.any, AV.any, AV.any, AV.any, AV.any, AV.any, AV.any, AV.any, AV.any, AV.any, AV.any, AV.any, AV.any, AV.any, AV.any, AV.any, AV.any, AV.any, AV.any, AV.any, AV.any, AV.any, AV.any] [some (Blk.mk false (74 : TypeId) (5 : Nat) true (List.map opE l)), some (Blk.mk true (nat_lit 84) (0 : Nat) true (AV.int IntKind.i64 w :: List.map roE (dT w (deR (List.map roE (tblT w (List.take p l)))) true (Ro.mk (Pf.mk (Ro.p (OpR.r (at' l p))).1 (Ro.p (OpR.r (at' l p))).2 (Ro.p (OpR.r (at' l p))).3) (OpR.r (at' l p)).2)))), some (Blk.mk true (48 : TypeId) (4 : Nat) true (List.map roE p_1.1))] = rnSt w l p' ∧ Nat.le p' (List.length l) ∧ List.length l + (1 : Nat) - p' < List.length l + (1 : Nat) - p))) ∧ (Decidable.decide ((at' l p).1 ≤ (0 : Int)) = false → List.map roE (tblT w (List.take p l)) = List.map roE (deR (List.map roE (tblT w (List.take p l)))) ∧ tbR w (deR (List.map roE (tblT w (List.take p l)))) = true ∧ ((dE w (deR (List.map roE (tblT w (List.take p l)))) false (Ro.mk (Pf.mk (Ro.p (OpR.r (at' l p))).1 (Ro.p (OpR.r (at' l p))).2 (Ro.p (OpR.r (at' l p))).3) (0 : Int)) != (Prod.snd p_1).2) = true → False) ∧ ((dE w (deR (List.map roE (tblT w (List.take p l)))) false (Ro.mk (Pf.mk (Ro.p (OpR.r (at' l p))).1 (Ro.p (OpR.r (at' l p))).2 (Ro.p (OpR.r (at' l p))).3) (0 : Int)) != (Prod.snd p_1).2) = false → inRange IntKind.i64 ((↑p : Int) + (1 : Int)) ∧ ∃ (p' : Nat), St.mk [AV.int IntKind.i64 w, AV.any, AV.any, AV.any, AV.any, AV.any, AV.any, AV.ptr ((0 : Nat) + (1 : Nat)) (0 : Nat) (0 : Nat) true, AV.any, AV.vsl ((0 : Nat) + (1 : Nat) + (1 : Nat)) (0 : Nat) (List.length p_1.1), AV.any, AV.any, AV.any, AV.any, AV.any, AV.any, AV.any, AV.any, AV.any, AV.any, AV.any, AV.any, AV.any, AV.any, AV.any, AV.any, AV.any, AV.any, AV.any, AV.any, AV.any, AV.any, AV.any, AV.vsl (0 : Nat) (0 : Nat) (List.length (List.map opE l)), AV.int IntKind.i64 (↑(List.length (List.map opE l)) : Int), AV.int IntKind.i64 ((↑p : Int) + (1 : Int)), AV.any, AV.any, AV.any, AV.any, AV.any, AV.any, AV.any, AV.any, AV.any, AV.any, AV.any, AV.any, AV.any, AV.any, AV.any, AV.any, AV.any, AV.any, AV.any, AV.any, AV.any, AV.any, AV.any, AV.any, AV.any, AV.any, AV.any, AV.any, AV.any, AV.any, AV.any, AV.any, AV.any, AV.any, AV.any, AV.any, AV.any, AV.any, AV.any, AV.any, AV.any, AV.any, AV.any, AV.any, AV.any, AV.any, AV.any] [some (Blk.mk false (74 : TypeId) (5 : Nat) true (List.map opE l)), some (Blk.mk true (nat_lit 84) (0 : Nat) true (AV.int IntKind.i64 w :: List.map roE (dT w (deR (List.map roE (tblT w (List.take p l)))) false (Ro.mk (Pf.mk (Ro.p (OpR.r (at' l p))).1 (Ro.p (OpR.r (at' l p))).2 (Ro.p (OpR.r (at' l p))).3) (0 : Int))))), some (Blk.mk true (48 : TypeId) (4 : Nat) true (List.map roE p_1.1))] = rnSt w l p' ∧ Nat.le p' (List.length l) ∧ List.length l + (1 : Nat) - p' < List.length l + (1 : Nat) - p))) ∧ (Decidable.decide ((↑p : Int) < (↑(List.length (List.map opE l)) : Int)) = false → Blk.mk true (nat_lit 84) (0 : Nat) true (AV.int IntKind.i64 w :: List.map roE (tblT w (List.take p l))) = Blk.mk true (nat_lit 84) (0 : Nat) true (AV.int IntKind.i64 w :: List.map roE (tblT w l)) ∧ (List.length (tblT w (List.take p l)) = List.length (List.map roE (tblT w l)) ∧ some (Blk.mk true (48 : TypeId) (4 : Nat) true (List.map roE (tblT w (List.take p l)))) = some (Blk.mk true (48 : TypeId) (4 : Nat) true (List.map roE (tblT w l)))) ∧ AV.bool true = AV.bool true ∧ True)) ∧ (¬(w = (32 : Int) ∨ w = (128 : Int)) → ((1 : Int) != (0 : Int)) = false ∧ true = false ∧ Decidable.decide ((↑(List.length (List.map opE l)) : Int) > (14 : Int)) = false ∧ (St.mk [AV.int IntKind.i64 w, AV.any, AV.any, AV.any, AV.any, AV.any, AV.any, AV.val (Value.pointer none), AV.any, AV.vsl (List.length [some (Blk.mk false (74 : TypeId) (5 : Nat) true (List.map opE l))]) (0 : Nat) (0 : Nat), AV.any, AV.any, AV.any, AV.any, AV.any, AV.any, AV.any, AV.any, AV.any, AV.any, AV.any, AV.any, AV.any, AV.any, AV.any, AV.any, AV.any, AV.any, AV.any, AV.any, AV.any, AV.any, AV.any, AV.vsl (0 : Nat) (0 : Nat) (List.length (List.map opE l)), AV.int IntKind.i64 (↑(List.length (List.map opE l)) : Int), AV.int IntKind.i64 (0 : Int), AV.any, AV.any, AV.any, AV.any, AV.any, AV.any, AV.any, AV.any, AV.any, AV.any, AV.any, AV.any, AV.any, AV.any, AV.any, AV.any, AV.any, AV.any, AV.any, AV.any, AV.any, AV.any, AV.any, AV.any, AV.any, AV.any, AV.any, AV.any, AV.any, AV.any, AV.any, AV.any, AV.any, AV.any, AV.any, AV.any, AV.any, AV.any, AV.any, AV.any, AV.any, AV.any, AV.any, AV.any, AV.any, AV.any, AV.any] ([some (Blk.mk false (74 : TypeId) (5 : Nat) true (List.map opE l))] ++ [some (Blk.mk true (48 : TypeId) (4 : Nat) true [])]) = rnSt w l (0 : Nat) ∧ Nat.le (0 : Nat) (List.length l)) ∧ ∀ (p : Nat), Nat.le p (List.length l) → (Decidable.decide ((↑p : Int) < (↑(List.length (List.map opE l)) : Int)) = true → ((0 : Int) ≤ (↑p : Int) ∧ (↑p : Int) < (↑(List.length (List.map opE l)) : Int)) ∧ Blk.read Proofs.Try.prog (Blk.mk false (74 : TypeId) (5 : Nat) true (List.map opE l)) (74 : Nat) ((0 : Nat) + Int.toNat (↑p : Int)) (0 : Nat) = some (AV.agg [AV.int IntKind.i64 (at' l p).1, AV.w64 (Ro.p (OpR.r (at' l p))).1, AV.w64 (Ro.p (OpR.r (at' l p))).2, AV.int IntKind.i64 (Ro.p (OpR.r (at' l p))).3, AV.int IntKind.i64 (OpR.r (at' l p)).2]) ∧ ((0 : Nat) + List.length (tblT w (List.take p l)) ≤ List.length (List.map roE (tblT w (List.take p l))) ∧ List.take (List.length (tblT w (List.take p l))) (List.drop (0 : Nat) (List.map roE (tblT w (List.take p l)))) = List.map roE (deR (List.take (List.length (tblT w (List.take p l))) (List.drop (0 : Nat) (List.map roE (tblT w (List.take p l)))))) ∧ List.length (deR (List.take (List.length (tblT w (List.take p l))) (List.drop (0 : Nat) (List.map roE (tblT w (List.take p l)))))) ≤ (9223372036854775807 : Nat) ∧ (((if (1 : Int) < if (0 : Int) > (at' l p).1 then (0 : Int) else (at' l p).1 then (1 : Int) else if (0 : Int) > (at' l p).1 then (0 : Int) else (at' l p).1) == (0 : Int)) = true → ((!riR w (Ro.mk (Pf.mk (Ro.p (OpR.r (at' l p))).1 (Ro.p (OpR.r (at' l p))).2 (Ro.p (OpR.r (at' l p))).3) (OpR.r (at' l p)).2)) = true → ∃ (p_1 : List Ro × Bool × Int), St.mk [AV.int IntKind.i64 w, AV.any, AV.any, AV.any, AV.any, AV.any, AV.any, AV.ptr ((0 : Nat) + (1 : Nat)) (0 : Nat) (0 : Nat) true, AV.any, AV.any, AV.any, AV.ptr ((0 : Nat) + (1 : Nat) + (1 : Nat)) (0 : Nat) (0 : Nat) true, AV.vsl ((0 : Nat) + (1 : Nat) + (1 : Nat) + (1 : Nat)) (0 : Nat) (List.length (tblT w (List.take p l))), AV.bool false, AV.int IntKind.i64 (1 : Int), AV.any, AV.any, AV.any, AV.any, AV.any, AV.any, AV.any, AV.any, AV.any, AV.any, AV.any, AV.any, AV.any, AV.any, AV.any, AV.any, AV.any, AV.any, AV.vsl (0 : Nat) (0 : Nat) (List.length (List.map opE l)), AV.int IntKind.i64 (↑(List.length (List.map opE l)) : Int), AV.int IntKind.i64 (↑p : Int), AV.any, AV.any, AV.any, AV.any, AV.any, AV.any, AV.any, AV.any, AV.any, AV.any, AV.any, AV.any, AV.any, AV.any, AV.any, AV.any, AV.any, AV.any, AV.any, AV.any, AV.any, AV.any, AV.any, AV.any, AV.any, AV.any, AV.any, AV.any, AV.any, AV.any, AV.any, AV.any, AV.any, AV.any, AV.any, AV.any, AV.any, AV.any, AV.any, AV.any, AV.any, AV.any, AV.any, AV.any, AV.any, AV.any, AV.any] [some (Blk.mk false (74 : TypeId) (5 : Nat) true (List.map opE l)), some (Blk.mk true (nat_lit 84) (0 : Nat) true (AV.int IntKind.i64 w :: List.map roE (tblT w (List.take p l)))), some (Blk.write (Blk.mk true (74 : Nat) (5 : Nat) true [AV.agg [AV.lit (Value.int IntKind.i64 (0 : Int)), AV.lit (Value.int IntKind.u64 (0 : Int)), AV.lit (Value.int IntKind.u64 (0 : Int)), AV.lit (Value.int IntKind.i64 (0 : Int)), AV.lit (Value.int IntKind.i64 (0 : Int))]]) (0 : Nat) (0 : Nat) (AV.agg [AV.int IntKind.i64 (at' l p).1, AV.w64 (Ro.p (OpR.r (at' l p))).1, AV.w64 (Ro.p (OpR.r (at' l p))).2, AV.int IntKind.i64 (Ro.p (OpR.r (at' l p))).3, AV.int IntKind.i64 (OpR.r (at' l p)).2])), some (Blk.mk true (48 : TypeId) (4 : Nat) true (List.map roE (tblT w (List.take p l))))] = rnSt2 w l p p_1 ∧ rnI2 w l p p_1) ∧ ((!riR w (Ro.mk (Pf.mk (Ro.p (OpR.r (at' l p))).1 (Ro.p (OpR.r (at' l p))).2 (Ro.p (OpR.r (at' l p))).3) (OpR.r (at' l p)).2)) = false → ((!Option.isSome (fdR (deR (List.take (List.length (tblT w (List.take p l))) (List.drop (0 : Nat) (List.map roE (tblT w (List.take p l)))))) (Pf.mk (Ro.p (OpR.r (at' l p))).1 (Ro.p (OpR.r (at' l p))).2 (Ro.p (OpR.r (at' l p))).3))) = true → (Decidable.decide ((↑(List.length (tblT w (List.take p l))) : Int) ≥ (256 : Int)) = true → ∃ (p_1 : List Ro × Bool × Int), St.mk [AV.int IntKind.i64 w, AV.any, AV.any, AV.any, AV.any, AV.any, AV.any, AV.ptr ((0 : Nat) + (1 : Nat)) (0 : Nat) (0 : Nat) true, AV.any, AV.any, AV.any, AV.ptr ((0 : Nat) + (1 : Nat) + (1 : Nat)) (0 : Nat) (0 : Nat) true, AV.vsl ((0 : Nat) + (1 : Nat) + (1 : Nat) + (1 : Nat)) (0 : Nat) (List.length (tblT w (List.take p l))), AV.bool false, AV.int IntKind.i64 (6 : Int), AV.any, AV.any, AV.any, AV.any, AV.any, AV.any, AV.any, AV.any, AV.any, AV.any, AV.any, AV.any, AV.any, AV.any, AV.any, AV.any, AV.any, AV.any, AV.vsl (0 : Nat) (0 : Nat) (List.length (List.map opE l)), AV.int IntKind.i64 (↑(List.length (List.map opE l)) : Int), AV.int IntKind.i64 (↑p : Int), AV.any, AV.any, AV.any, AV.any, AV.any, AV.any, AV.any, AV.any, AV.any, AV.any, AV.any, AV.any, AV.any, AV.any, AV.any, AV.any, AV.any, AV.any, AV.any, AV.any, AV.any, AV.any, AV.any, AV.any, AV.any, AV.any, AV.any, AV.any, AV.any, AV.any, AV.any, AV.any, AV.any, AV.any, AV.any, AV.any, AV.any, AV.any, AV.any, AV.any, AV.any, AV.any, AV.any, AV.any, AV.any, AV.any, AV.any] [some (Blk.mk false (74 : TypeId) (5 : Nat) true (List.map opE l)), some (Blk.mk true (nat_lit 84) (0 : Nat) true (AV.int IntKind.i64 w :: List.map roE (tblT w (List.take p l)))), some (Blk.write (Blk.mk true (74 : Nat) (5 : Nat) true [AV.agg [AV.lit (Value.int IntKind.i64 (0 : Int)), AV.lit (Value.int IntKind.u64 (0 : Int)), AV.lit (Value.int IntKind.u64 (0 : Int)), AV.lit (Value.int IntKind.i64 (0 : Int)), AV.lit (Value.int IntKind.i64 (0 : Int))]]) (0 : Nat) (0 : Nat) (AV.agg [AV.int IntKind.i64 (at' l p).1, AV.w64 (Ro.p (OpR.r (at' l p))).1, AV.w64 (Ro.p (OpR.r (at' l p))).2, AV.int IntKind.i64 (Ro.p (OpR.r (at' l p))).3, AV.int IntKind.i64 (OpR.r (at' l p)).2])), some (Blk.mk true (48 : TypeId) (4 : Nat) true (List.map roE (tblT w (List.take p l))))] = rnSt2 w l p p_1 ∧ rnI2 w l p p_1) ∧ (Decidable.decide ((↑(List.length (tblT w (List.take p l))) : Int) ≥ (256 : Int)) = false → (0 : Nat) + List.length (tblT w (List.take p l)) ≤ List.length (List.map roE (tblT w (List.take p l))) ∧ List.take (List.length (tblT w (List.take p l))) (List.drop (0 : Nat) (List.map roE (tblT w (List.take p l)))) = List.map roE (deR (List.take (List.length (tblT w (List.take p l))) (List.drop (0 : Nat) (List.map roE (tblT w (List.take p l)))))) ∧ List.length (deR (List.take (List.length (tblT w (List.take p l))) (List.drop (0 : Nat) (List.map roE (tblT w (List.take p l)))))) ≤ (1000000 : Nat) ∧ ∃ (p_1 : List Ro × Bool × Int), St.mk [AV.int IntKind.i64 w, AV.any, AV.any, AV.any, AV.any, AV.any, AV.any, AV.ptr ((0 : Nat) + (1 : Nat)) (0 : Nat) (0 : Nat) true, AV.any, AV.any, AV.any, AV.ptr ((0 : Nat) + (1 : Nat) + (1 : Nat)) (0 : Nat) (0 : Nat) true, AV.vsl ((0 : Nat) + (1 : Nat) + (1 : Nat) + (1 : Nat)) (0 : Nat) (List.length (List.map roE (ptR (deR (List.take (List.length (tblT w (List.take p l))) (List.drop (0 : Nat) (List.map roE (tblT w (List.take p l)))))) (Ro.mk (Pf.mk (Ro.p (OpR.r (at' l p))).1 (Ro.p (OpR.r (at' l p))).2 (Ro.p (OpR.r (at' l p))).3) (OpR.r (at' l p)).2)))), AV.bool (Option.isSome (fdR (deR (List.take (List.length (tblT w (List.take p l))) (List.drop (0 : Nat) (List.map roE (tblT w (List.take p l)))))) (Pf.mk (Ro.p (OpR.r (at' l p))).1 (Ro.p (OpR.r (at' l p))).2 (Ro.p (OpR.r (at' l p))).3))), AV.int IntKind.i64 (0 : Int), AV.any, AV.any, AV.any, AV.any, AV.any, AV.any, AV.any, AV.any, AV.any, AV.any, AV.any, AV.any, AV.any, AV.any, AV.any, AV.any, AV.any, AV.any, AV.vsl (0 : Nat) (0 : Nat) (List.length (List.map opE l)), AV.int IntKind.i64 (↑(List.length (List.map opE l)) : Int), AV.int IntKind.i64 (↑p : Int), AV.any, AV.any, AV.any, AV.any, AV.any, AV.any, AV.any, AV.any, AV.any, AV.any, AV.any, AV.any, AV.any, AV.any, AV.any, AV.any, AV.any, AV.any, AV.any, AV.any, AV.any, AV.any, AV.any, AV.any, AV.any, AV.any, AV.any, AV.any, AV.any, AV.any, AV.any, AV.any, AV.any, AV.any, AV.any, AV.any, AV.any, AV.any, AV.any, AV.any, AV.any, AV.any, AV.any, AV.any, AV.any, AV.any, AV.any] [some (Blk.mk false (74 : TypeId) (5 : Nat) true (List.map opE l)), some (Blk.mk true (nat_lit 84) (0 : Nat) true (AV.int IntKind.i64 w :: List.map roE (tblT w (List.take p l)))), some (Blk.write (Blk.mk true (74 : Nat) (5 : Nat) true [AV.agg [AV.lit (Value.int IntKind.i64 (0 : Int)), AV.lit (Value.int IntKind.u64 (0 : Int)), AV.lit (Value.int IntKind.u64 (0 : Int)), AV.lit (Value.int IntKind.i64 (0 : Int)), AV.lit (Value.int IntKind.i64 (0 : Int))]]) (0 : Nat) (0 : Nat) (AV.agg [AV.int IntKind.i64 (at' l p).1, AV.w64 (Ro.p (OpR.r (at' l p))).1, AV.w64 (Ro.p (OpR.r (at' l p))).2, AV.int IntKind.i64 (Ro.p (OpR.r (at' l p))).3, AV.int IntKind.i64 (OpR.r (at' l p)).2])), some (Blk.mk true (48 : TypeId) (4 : Nat) true (List.map roE (ptR (deR (List.take (List.length (tblT w (List.take p l))) (List.drop (0 : Nat) (List.map roE (tblT w (List.take p l)))))) (Ro.mk (Pf.mk (Ro.p (OpR.r (at' l p))).1 (Ro.p (OpR.r (at' l p))).2 (Ro.p (OpR.r (at' l p))).3) (OpR.r (at' l p)).2))))] = rnSt2 w l p p_1 ∧ rnI2 w l p p_1)) ∧ ((!Option.isSome (fdR (deR (List.take (List.length (tblT w (List.take p l))) (List.drop (0 : Nat) (List.map roE (tblT w (List.take p l)))))) (Pf.mk (Ro.p (OpR.r (at' l p))).1 (Ro.p (OpR.r (at' l p))).2 (Ro.p (OpR.r (at' l p))).3))) = false → (0 : Nat) + List.length (tblT w (List.take p l)) ≤ List.length (List.map roE (tblT w (List.take p l))) ∧ List.take (List.length (tblT w (List.take p l))) (List.drop (0 : Nat) (List.map roE (tblT w (List.take p l)))) = List.map roE (deR (List.take (List.length (tblT w (List.take p l))) (List.drop (0 : Nat) (List.map roE (tblT w (List.take p l)))))) ∧ List.length (deR (List.take (List.length (tblT w (List.take p l))) (List.drop (0 : Nat) (List.map roE (tblT w (List.take p l)))))) ≤ (1000000 : Nat) ∧ ∃ (p_1 : List Ro × Bool × Int), St.mk [AV.int IntKind.i64 w, AV.any, AV.any, AV.any, AV.any, AV.any, AV.any, AV.ptr ((0 : Nat) + (1 : Nat)) (0 : Nat) (0 : Nat) true, AV.any, AV.any, AV.any, AV.ptr ((0 : Nat) + (1 : Nat) + (1 : Nat)) (0 : Nat) (0 : Nat) true, AV.vsl ((0 : Nat) + (1 : Nat) + (1 : Nat) + (1 : Nat)) (0 : Nat) (List.length (List.map roE (ptR (deR (List.take (List.length (tblT w (List.take p l))) (List.drop (0 : Nat) (List.map roE (tblT w (List.take p l)))))) (Ro.mk (Pf.mk (Ro.p (OpR.r (at' l p))).1 (Ro.p (OpR.r (at' l p))).2 (Ro.p (OpR.r (at' l p))).3) (OpR.r (at' l p)).2)))), AV.bool (Option.isSome (fdR (deR (List.take (List.length (tblT w (List.take p l))) (List.drop (0 : Nat) (List.map roE (tblT w (List.take p l)))))) (Pf.mk (Ro.p (OpR.r (at' l p))).1 (Ro.p (OpR.r (at' l p))).2 (Ro.p (OpR.r (at' l p))).3))), AV.int IntKind.i64 (0 : Int), AV.any, AV.any, AV.any, AV.any, AV.any, AV.any, AV.any, AV.any, AV.any, AV.any, AV.any, AV.any, AV.any, AV.any, AV.any, AV.any, AV.any, AV.any, AV.vsl (0 : Nat) (0 : Nat) (List.length (List.map opE l)), AV.int IntKind.i64 (↑(List.length (List.map opE l)) : Int), AV.int IntKind.i64 (↑p : Int), AV.any, AV.any, AV.any, AV.any, AV.any, AV.any, AV.any, AV.any, AV.any, AV.any, AV.any, AV.any, AV.any, AV.any, AV.any, AV.any, AV.any, AV.any, AV.any, AV.any, AV.any, AV.any, AV.any, AV.any, AV.any, AV.any, AV.any, AV.any, AV.any, AV.any, AV.any, AV.any, AV.any, AV.any, AV.any, AV.any, AV.any, AV.any, AV.any, AV.any, AV.any, AV.any, AV.any, AV.any, AV.any, AV.any, AV.any] [some (Blk.mk false (74 : TypeId) (5 : Nat) true (List.map opE l)), some (Blk.mk true (nat_lit 84) (0 : Nat) true (AV.int IntKind.i64 w :: List.map roE (tblT w (List.take p l)))), some (Blk.write (Blk.mk true (74 : Nat) (5 : Nat) true [AV.agg [AV.lit (Value.int IntKind.i64 (0 : Int)), AV.lit (Value.int IntKind.u64 (0 : Int)), AV.lit (Value.int IntKind.u64 (0 : Int)), AV.lit (Value.int IntKind.i64 (0 : Int)), AV.lit (Value.int IntKind.i64 (0 : Int))]]) (0 : Nat) (0 : Nat) (AV.agg [AV.int IntKind.i64 (at' l p).1, AV.w64 (Ro.p (OpR.r (at' l p))).1, AV.w64 (Ro.p (OpR.r (at' l p))).2, AV.int IntKind.i64 (Ro.p (OpR.r (at' l p))).3, AV.int IntKind.i64 (OpR.r (at' l p)).2])), some (Blk.mk true (48 : TypeId) (4 : Nat) true (List.map roE (ptR (deR (List.take (List.length (tblT w (List.take p l))) (List.drop (0 : Nat) (List.map roE (tblT w (List.take p l)))))) (Ro.mk (Pf.mk (Ro.p (OpR.r (at' l p))).1 (Ro.p (OpR.r (at' l p))).2 (Ro.p (OpR.r (at' l p))).3) (OpR.r (at' l p)).2))))] = rnSt2 w l p p_1 ∧ rnI2 w l p p_1))) ∧ (((if (1 : Int) < if (0 : Int) > (at' l p).1 then (0 : Int) else (at' l p).1 then (1 : Int) else if (0 : Int) > (at' l p).1 then (0 : Int) else (at' l p).1) == (0 : Int)) = false → ((!rightB w (Ro.p (OpR.r (at' l p))).1 (Ro.p (OpR.r (at' l p))).2 (Ro.p (OpR.r (at' l p))).3) = true → ∃ (p_1 : List Ro × Bool × Int), St.mk [AV.int IntKind.i64 w, AV.any, AV.any, AV.any, AV.any, AV.any, AV.any, AV.ptr ((0 : Nat) + (1 : Nat)) (0 : Nat) (0 : Nat) true, AV.any, AV.any, AV.any, AV.ptr ((0 : Nat) + (1 : Nat) + (1 : Nat)) (0 : Nat) (0 : Nat) true, AV.vsl ((0 : Nat) + (1 : Nat) + (1 : Nat) + (1 : Nat)) (0 : Nat) (List.length (tblT w (List.take p l))), AV.bool false, AV.int IntKind.i64 (1 : Int), AV.any, AV.any, AV.any, AV.any, AV.any, AV.any, AV.any, AV.any, AV.any, AV.any, AV.any, AV.any, AV.any, AV.any, AV.any, AV.any, AV.any, AV.any, AV.vsl (0 : Nat) (0 : Nat) (List.length (List.map opE l)), AV.int IntKind.i64 (↑(List.length (List.map opE l)) : Int), AV.int IntKind.i64 (↑p : Int), AV.any, AV.any, AV.any, AV.any, AV.any, AV.any, AV.any, AV.any, AV.any, AV.any, AV.any, AV.any, AV.any, AV.any, AV.any, AV.any, AV.any, AV.any, AV.any, AV.any, AV.any, AV.any, AV.any, AV.any, AV.any, AV.any, AV.any, AV.any, AV.any, AV.any, AV.any, AV.any, AV.any, AV.any, AV.any, AV.any, AV.any, AV.any, AV.any, AV.any, AV.any, AV.any, AV.any, AV.any, AV.any, AV.any, AV.any] [some (Blk.mk false (74 : TypeId) (5 : Nat) true (List.map opE l)), some (Blk.mk true (nat_lit 84) (0 : Nat) true (AV.int IntKind.i64 w :: List.map roE (tblT w (List.take p l)))), some (Blk.write (Blk.mk true (74 : Nat) (5 : Nat) true [AV.agg [AV.lit (Value.int IntKind.i64 (0 : Int)), AV.lit (Value.int IntKind.u64 (0 : Int)), AV.lit (Value.int IntKind.u64 (0 : Int)), AV.lit (Value.int IntKind.i64 (0 : Int)), AV.lit (Value.int IntKind.i64 (0 : Int))]]) (0 : Nat) (0 : Nat) (AV.agg [AV.int IntKind.i64 (at' l p).1, AV.w64 (Ro.p (OpR.r (at' l p))).1, AV.w64 (Ro.p (OpR.r (at' l p))).2, AV.int IntKind.i64 (Ro.p (OpR.r (at' l p))).3, AV.int IntKind.i64 (OpR.r (at' l p)).2])), some (Blk.mk true (48 : TypeId) (4 : Nat) true (List.map roE (tblT w (List.take p l))))] = rnSt2 w l p p_1 ∧ rnI2 w l p p_1) ∧ ((!rightB w (Ro.p (OpR.r (at' l p))).1 (Ro.p (OpR.r (at' l p))).2 (Ro.p (OpR.r (at' l p))).3) = false → ((!Option.isSome (fdR (deR (List.take (List.length (tblT w (List.take p l))) (List.drop (0 : Nat) (List.map roE (tblT w (List.take p l)))))) (Pf.mk (Ro.p (OpR.r (at' l p))).1 (Ro.p (OpR.r (at' l p))).2 (Ro.p (OpR.r (at' l p))).3))) = true → ∃ (p_1 : List Ro × Bool × Int), St.mk [AV.int IntKind.i64 w, AV.any, AV.any, AV.any, AV.any, AV.any, AV.any, AV.ptr ((0 : Nat) + (1 : Nat)) (0 : Nat) (0 : Nat) true, AV.any, AV.any, AV.any, AV.ptr ((0 : Nat) + (1 : Nat) + (1 : Nat)) (0 : Nat) (0 : Nat) true, AV.vsl ((0 : Nat) + (1 : Nat) + (1 : Nat) + (1 : Nat)) (0 : Nat) (List.length (tblT w (List.take p l))), AV.bool false, AV.int IntKind.i64 (2 : Int), AV.any, AV.any, AV.any, AV.any, AV.any, AV.any, AV.any, AV.any, AV.any, AV.any, AV.any, AV.any, AV.any, AV.any, AV.any, AV.any, AV.any, AV.any, AV.vsl (0 : Nat) (0 : Nat) (List.length (List.map opE l)), AV.int IntKind.i64 (↑(List.length (List.map opE l)) : Int), AV.int IntKind.i64 (↑p : Int), AV.any, AV.any, AV.any, AV.any, AV.any, AV.any, AV.any, AV.any, AV.any, AV.any, AV.any, AV.any, AV.any, AV.any, AV.any, AV.any, AV.any, AV.any, AV.any, AV.any, AV.any, AV.any, AV.any, AV.any, AV.any, AV.any, AV.any, AV.any, AV.any, AV.any, AV.any, AV.any, AV.any, AV.any, AV.any, AV.any, AV.any, AV.any, AV.any, AV.any, AV.any, AV.any, AV.any, AV.any, AV.any, AV.any, AV.any] [some (Blk.mk false (74 : TypeId) (5 : Nat) true (List.map opE l)), some (Blk.mk true (nat_lit 84) (0 : Nat) true (AV.int IntKind.i64 w :: List.map roE (tblT w (List.take p l)))), some (Blk.write (Blk.mk true (74 : Nat) (5 : Nat) true [AV.agg [AV.lit (Value.int IntKind.i64 (0 : Int)), AV.lit (Value.int IntKind.u64 (0 : Int)), AV.lit (Value.int IntKind.u64 (0 : Int)), AV.lit (Value.int IntKind.i64 (0 : Int)), AV.lit (Value.int IntKind.i64 (0 : Int))]]) (0 : Nat) (0 : Nat) (AV.agg [AV.int IntKind.i64 (at' l p).1, AV.w64 (Ro.p (OpR.r (at' l p))).1, AV.w64 (Ro.p (OpR.r (at' l p))).2, AV.int IntKind.i64 (Ro.p (OpR.r (at' l p))).3, AV.int IntKind.i64 (OpR.r (at' l p)).2])), some (Blk.mk true (48 : TypeId) (4 : Nat) true (List.map roE (tblT w (List.take p l))))] = rnSt2 w l p p_1 ∧ rnI2 w l p p_1) ∧ ((!Option.isSome (fdR (deR (List.take (List.length (tblT w (List.take p l))) (List.drop (0 : Nat) (List.map roE (tblT w (List.take p l)))))) (Pf.mk (Ro.p (OpR.r (at' l p))).1 (Ro.p (OpR.r (at' l p))).2 (Ro.p (OpR.r (at' l p))).3))) = false → (0 : Nat) + List.length (tblT w (List.take p l)) ≤ List.length (List.map roE (tblT w (List.take p l))) ∧ List.take (List.length (tblT w (List.take p l))) (List.drop (0 : Nat) (List.map roE (tblT w (List.take p l)))) = List.map roE (deR (List.take (List.length (tblT w (List.take p l))) (List.drop (0 : Nat) (List.map roE (tblT w (List.take p l)))))) ∧ List.length (deR (List.take (List.length (tblT w (List.take p l))) (List.drop (0 : Nat) (List.map roE (tblT w (List.take p l)))))) ≤ (1000000 : Nat) ∧ ∃ (p_1 : List Ro × Bool × Int), St.mk [AV.int IntKind.i64 w, AV.any, AV.any, AV.any, AV.any, AV.any, AV.any, AV.ptr ((0 : Nat) + (1 : Nat)) (0 : Nat) (0 : Nat) true, AV.any, AV.any, AV.any, AV.ptr ((0 : Nat) + (1 : Nat) + (1 : Nat)) (0 : Nat) (0 : Nat) true, AV.vsl ((0 : Nat) + (1 : Nat) + (1 : Nat) + (1 : Nat)) (0 : Nat) (List.length (List.map roE (drR (deR (List.take (List.length (tblT w (List.take p l))) (List.drop (0 : Nat) (List.map roE (tblT w (List.take p l)))))) (Pf.mk (Ro.p (OpR.r (at' l p))).1 (Ro.p (OpR.r (at' l p))).2 (Ro.p (OpR.r (at' l p))).3)))), AV.bool false, AV.int IntKind.i64 (0 : Int), AV.any, AV.any, AV.any, AV.any, AV.any, AV.any, AV.any, AV.any, AV.any, AV.any, AV.any, AV.any, AV.any, AV.any, AV.any, AV.any, AV.any, AV.any, AV.vsl (0 : Nat) (0 : Nat) (List.length (List.map opE l)), AV.int IntKind.i64 (↑(List.length (List.map opE l)) : Int), AV.int IntKind.i64 (↑p : Int), AV.any, AV.any, AV.any, AV.any, AV.any, AV.any, AV.any, AV.any, AV.any, AV.any, AV.any, AV.any, AV.any, AV.any, AV.any, AV.any, AV.any, AV.any, AV.any, AV.any, AV.any, AV.any, AV.any, AV.any, AV.any, AV.any, AV.any, AV.any, AV.any, AV.any, AV.any, AV.any, AV.any, AV.any, AV.any, AV.any, AV.any, AV.any, AV.any, AV.any, AV.any, AV.any, AV.any, AV.any, AV.any, AV.any, AV.any] [some (Blk.mk false (74 : TypeId) (5 : Nat) true (List.map opE l)), some (Blk.mk true (nat_lit 84) (0 : Nat) true (AV.int IntKind.i64 w :: List.map roE (tblT w (List.take p l)))), some (Blk.write (Blk.mk true (74 : Nat) (5 : Nat) true [AV.agg [AV.lit (Value.int IntKind.i64 (0 : Int)), AV.lit (Value.int IntKind.u64 (0 : Int)), AV.lit (Value.int IntKind.u64 (0 : Int)), AV.lit (Value.int IntKind.i64 (0 : Int)), AV.lit (Value.int IntKind.i64 (0 : Int))]]) (0 : Nat) (0 : Nat) (AV.agg [AV.int IntKind.i64 (at' l p).1, AV.w64 (Ro.p (OpR.r (at' l p))).1, AV.w64 (Ro.p (OpR.r (at' l p))).2, AV.int IntKind.i64 (Ro.p (OpR.r (at' l p))).3, AV.int IntKind.i64 (OpR.r (at' l p)).2])), some (Blk.mk true (48 : TypeId) (4 : Nat) true (List.map roE (drR (deR (List.take (List.length (tblT w (List.take p l))) (List.drop (0 : Nat) (List.map roE (tblT w (List.take p l)))))) (Pf.mk (Ro.p (OpR.r (at' l p))).1 (Ro.p (OpR.r (at' l p))).2 (Ro.p (OpR.r (at' l p))).3))))] = rnSt2 w l p p_1 ∧ rnI2 w l p p_1)))) ∧ ∀ (p_1 : List Ro × Bool × Int), rnI2 w l p p_1 → (Decidable.decide ((at' l p).1 ≤ (0 : Int)) = true → List.map roE (tblT w (List.take p l)) = List.map roE (deR (List.map roE (tblT w (List.take p l)))) ∧ tbR w (deR (List.map roE (tblT w (List.take p l)))) = true ∧ ((!dB w (deR (List.map roE (tblT w (List.take p l)))) true (Ro.mk (Pf.mk (Ro.p (OpR.r (at' l p))).1 (Ro.p (OpR.r (at' l p))).2 (Ro.p (OpR.r (at' l p))).3) (OpR.r (at' l p)).2) == (Prod.snd p_1).1) = true → False) ∧ ((!dB w (deR (List.map roE (tblT w (List.take p l)))) true (Ro.mk (Pf.mk (Ro.p (OpR.r (at' l p))).1 (Ro.p (OpR.r (at' l p))).2 (Ro.p (OpR.r (at' l p))).3) (OpR.r (at' l p)).2) == (Prod.snd p_1).1) = false → ((dE w (deR (List.map roE (tblT w (List.take p l)))) true (Ro.mk (Pf.mk (Ro.p (OpR.r (at' l p))).1 (Ro.p (OpR.r (at' l p))).2 (Ro.p (OpR.r (at' l p))).3) (OpR.r (at' l p)).2) != (Prod.snd p_1).2) = true → False) ∧ ((dE w (deR (List.map roE (tblT w (List.take p l)))) true (Ro.mk (Pf.mk (Ro.p (OpR.r (at' l p))).1 (Ro.p (OpR.r (at' l p))).2 (Ro.p (OpR.r (at' l p))).3) (OpR.r (at' l p)).2) != (Prod.snd p_1).2) = false → inRange IntKind.i64 ((↑p : Int) + (1 : Int)) ∧ ∃ (p' : Nat), St.mk [AV.int IntKind.i64 w, AV.any, AV.any, AV.any, AV.any, AV.any, AV.any, AV.ptr ((0 : Nat) + (1 : Nat)) (0 : Nat) (0 : Nat) true, AV.any, AV.vsl ((0 : Nat) + (1 : Nat) + (1 : Nat)) (0 : Nat) (List.length p_1.1), AV.any, AV.any, AV.any, AV.any, AV.any, AV.any, AV.any, AV.any, AV.any, AV.any, AV.any, AV.any, AV.any, AV.any, AV.any, AV.any, AV.any, AV.any, AV.any, AV.any, AV.any, AV.any, AV.any, AV.vsl (0 : Nat) (0 : Nat) (List.length (List.map opE l)), AV.int IntKind.i64 (↑(List.length (List.map opE l)) : Int), AV.int IntKind.i64 ((↑p : Int) + (1 : Int)), AV.any, AV.any, AV.any, AV.any, AV.any, AV.any, AV.any, AV.any, AV.any, AV.any, AV.any, AV.any, AV.any, AV.any, AV.any, AV.any, AV.any, AV.any, AV.any, AV.any, AV.any, AV.any, AV.any, AV.any, AV.any, AV.any, AV.any, AV.any, AV.any, AV.any, AV.any, AV.any, AV.any, AV.any, AV.any, AV.any, AV.any, AV.any, AV.any, AV.any, AV.any, AV.any, AV.any, AV.any, AV.any, AV.any, AV.any] [some (Blk.mk false (74 : TypeId) (5 : Nat) true (List.map opE l)), some (Blk.mk true (nat_lit 84) (0 : Nat) true (AV.int IntKind.i64 w :: List.map roE (dT w (deR (List.map roE (tblT w (List.take p l)))) true (Ro.mk (Pf.mk (Ro.p (OpR.r (at' l p))).1 (Ro.p (OpR.r (at' l p))).2 (Ro.p (OpR.r (at' l p))).3) (OpR.r (at' l p)).2)))), some (Blk.mk true (48 : TypeId) (4 : Nat) true (List.map roE p_1.1))] = rnSt w l p' ∧ Nat.le p' (List.length l) ∧ List.length l + (1 : Nat) - p' < List.length l + (1 : Nat) - p))) ∧ (Decidable.decide ((at' l p).1 ≤ (0 : Int)) = false → List.map roE (tblT w (List.take p l)) = List.map roE (deR (List.map roE (tblT w (List.take p l)))) ∧ tbR w (deR (List.map roE (tblT w (List.take p l)))) = true ∧ ((dE w (deR (List.map roE (tblT w (List.take p l)))) false (Ro.mk (Pf.mk (Ro.p (OpR.r (at' l p))).1 (Ro.p (OpR.r (at' l p))).2 (Ro.p (OpR.r (at' l p))).3) (0 : Int)) != (Prod.snd p_1).2) = true → False) ∧ ((dE w (deR (List.map roE (tblT w (List.take p l)))) false (Ro.mk (Pf.mk (Ro.p (OpR.r (at' l p))).1 (Ro.p (OpR.r (at' l p))).2 (Ro.p (OpR.r (at' l p))).3) (0 : Int)) != (Prod.snd p_1).2) = false → inRange IntKind.i64 ((↑p : Int) + (1 : Int)) ∧ ∃ (p' : Nat), St.mk [AV.int IntKind.i64 w, AV.any, AV.any, AV.any, AV.any, AV.any, AV.any, AV.ptr ((0 : Nat) + (1 : Nat)) (0 : Nat) (0 : Nat) true, AV.any, AV.vsl ((0 : Nat) + (1 : Nat) + (1 : Nat)) (0 : Nat) (List.length p_1.1), AV.any, AV.any, AV.any, AV.any, AV.any, AV.any, AV.any, AV.any, AV.any, AV.any, AV.any, AV.any, AV.any, AV.any, AV.any, AV.any, AV.any, AV.any, AV.any, AV.any, AV.any, AV.any, AV.any, AV.vsl (0 : Nat) (0 : Nat) (List.length (List.map opE l)), AV.int IntKind.i64 (↑(List.length (List.map opE l)) : Int), AV.int IntKind.i64 ((↑p : Int) + (1 : Int)), AV.any, AV.any, AV.any, AV.any, AV.any, AV.any, AV.any, AV.any, AV.any, AV.any, AV.any, AV.any, AV.any, AV.any, AV.any, AV.any, AV.any, AV.any, AV.any, AV.any, AV.any, AV.any, AV.any, AV.any, AV.any, AV.any, AV.any, AV.any, AV.any, AV.any, AV.any, AV.any, AV.any, AV.any, AV.any, AV.any, AV.any, AV.any, AV.any, AV.any, AV.any, AV.any, AV.any, AV.any, AV.any, AV.any, AV.any] [some (Blk.mk false (74 : TypeId) (5 : Nat) true (List.map opE l)), some (Blk.mk true (nat_lit 84) (0 : Nat) true (AV.int IntKind.i64 w :: List.map roE (dT w (deR (List.map roE (tblT w (List.take p l)))) false (Ro.mk (Pf.mk (Ro.p (OpR.r (at' l p))).1 (Ro.p (OpR.r (at' l p))).2 (Ro.p (OpR.r (at' l p))).3) (0 : Int))))), some (Blk.mk true (48 : TypeId) (4 : Nat) true (List.map roE p_1.1))] = rnSt w l p' ∧ Nat.le p' (List.length l) ∧ List.length l + (1 : Nat) - p' < List.length l + (1 : Nat) - p))) ∧ (Decidable.decide ((↑p : Int) < (↑(List.length (List.map opE l)) : Int)) = false → Blk.mk true (nat_lit 84) (0 : Nat) true (AV.int IntKind.i64 w :: List.map roE (tblT w (List.take p l))) = Blk.mk true (nat_lit 84) (0 : Nat) true (AV.int IntKind.i64 w :: List.map roE (tblT w l)) ∧ (List.length (tblT w (List.take p l)) = List.length (List.map roE (tblT w l)) ∧ some (Blk.mk true (48 : TypeId) (4 : Nat) true (List.map roE (tblT w (List.take p l)))) = some (Blk.mk true (48 : TypeId) (4 : Nat) true (List.map roE (tblT w l)))) ∧ AV.bool true = AV.bool true ∧ True))) := by kernel_rfl

theorem run7Cs_ok (h : ∀ e ∈ t7Cs, SpecOK Try.prog e.1 e.2) : ∀ e ∈ run7Cs, SpecOK Try.prog e.1 e.2 := by
  intro e he
  simp only [run7Cs, List.mem_cons] at he
  rcases he with rfl | rfl | rfl | rfl | rfl | rfl | he
  · exact one6_ok
  · exact rrfind_ok
  · exact rrr_ok
  · exact rrput_ok
  · exact rrdrop_ok
  · exact rright_ok
  · exact h e he

end Go.Proofs.Ytfpofdlpgocnlaa.L1
end

section
/-
  Layer 7: the law's run keeps its contract.
-/
namespace Go.Sx.M
open Go.Proofs.Ytfpofdlpgocnlaa.L1

theorem dT_drop (w : Int) (l : List Ro) (r : Ro) (j : Int) : dT w l false ⟨r.p, j⟩ = dT w l false r := by
  rfl
theorem dE_drop (w : Int) (l : List Ro) (r : Ro) (j : Int) : dE w l false ⟨r.p, j⟩ = dE w l false r := by
  rfl

theorem kindB (k : Int) : ((if 1 < if 0 > k then 0 else k then 1 else if 0 > k then 0 else k) == 0) = decide (k ≤ 0) := by
  rw [Bool.eq_iff_iff, decide_eq_true_eq, beq_iff_eq]
  repeat' split
  all_goals omega

theorem notF {b : Bool} (h : (!b) = false) : b = true := by cases b <;> simp_all

theorem notTT {b : Bool} (h : (!b) = true) : b = false := by cases b <;> simp_all

end Go.Sx.M
namespace Go.Proofs.Ytfpofdlpgocnlaa.L1
open Go.Sx Go.Sx.M

theorem whole_len {T : Type} (de : T → AV) (l : List T) : List.take l.length (List.drop 0 (l.map de)) = l.map de := by
  rw [List.drop_zero, List.take_of_length_le (by rw [List.length_map]; exact Nat.le_refl _)]

theorem run7_walk (w : Int) (l : List OpR) (hw : w = 32 ∨ w = 128) (hl : l.length ≤ 14) : ∃ hs, run run7Cs Try.prog 11 [.int .i64 w, .vsl 0 0 (l.map opE).length] [some ⟨false, 74, 5, true, l.map opE⟩] hs (yields (.many [.obj trT (.int .i64 w :: (tblT w l).map roE), .vrow 48 4 ((tblT w l).map roE), .v (.bool true)])) := by
  refine ⟨rnH w l, ?_⟩
  rw [run7_run]
  have hlen : (l.map opE).length = l.length := List.length_map _
  refine ⟨fun _ => ⟨rfl, rfl, decide_eq_false (by omega), ⟨rfl, Nat.zero_le _⟩, fun p hp0 => ⟨fun hlt => ?_, fun hge => ?_⟩⟩, fun hn => absurd hw hn⟩
  · have hp : p < l.length := by have := of_decide_eq_true hlt; omega
    have B : 0 ≤ (p : Int) ∧ (p : Int) < ((l.map opE).length : Int) := by omega
    have hlT : (tblT w (l.take p)).length ≤ 14 := by
      have := tblT_length w (l.take p)
      rw [List.length_take] at this
      omega
    have T := tblT_tb hw (l.take p) (by rw [List.length_take]; omega)
    have e : tblT w (l.take (p + 1)) = dT w (tblT w (l.take p)) (isPut (at' l p)) (at' l p).r := by rw [take_one hp, tblT_snoc]
    refine ⟨B, read_rows B.1 B.2 (op_whole _), ?_⟩
    simp only [whole_len, deR_map, kindB]
    refine ⟨⟨by rw [List.length_map]; omega, trivial, by omega, fun hk => ?_, fun hk => ?_⟩, fun p1 h1 => ?_⟩
    · have hk : isPut (at' l p) = true := hk
      refine ⟨fun hr => ?_, fun hr => ⟨fun hf => ⟨fun hm => ?_, fun hm => ⟨by rw [List.length_map]; omega, trivial, by omega, ?_⟩⟩, fun hf => ⟨by rw [List.length_map]; omega, trivial, by omega, ?_⟩⟩⟩
      · have hr : riR w (at' l p).r = false := notTT hr
        refine ⟨(tblT w (l.take p), false, 1), rfl, ?_⟩
        unfold rnI2 dT dB dE
        rw [hk, hr]; rfl
      · exact absurd (of_decide_eq_true hm) (by omega)
      · have hr : riR w (at' l p).r = true := notF hr
        refine ⟨(ptR (tblT w (l.take p)) (at' l p).r, (fdR (tblT w (l.take p)) (at' l p).r.p).isSome, 0), ?_, ?_⟩
        · unfold rnSt2; rw [List.length_map]; rfl
        · unfold rnI2 dT dB dE
          rw [hk, hr, decide_eq_true (show (tblT w (l.take p)).length < 256 by omega)]
          simp
      · have hr : riR w (at' l p).r = true := notF hr
        refine ⟨(ptR (tblT w (l.take p)) (at' l p).r, (fdR (tblT w (l.take p)) (at' l p).r.p).isSome, 0), ?_, ?_⟩
        · unfold rnSt2; rw [List.length_map]; rfl
        · unfold rnI2 dT dB dE
          rw [hk, hr, decide_eq_true (show (tblT w (l.take p)).length < 256 by omega)]
          simp
    · have hk : isPut (at' l p) = false := hk
      refine ⟨fun hr => ?_, fun hr => ⟨fun hf => ?_, fun hf => ⟨by rw [List.length_map]; omega, trivial, by omega, ?_⟩⟩⟩
      · have hr : riP w (at' l p).r.p = false := notTT hr
        refine ⟨(tblT w (l.take p), false, 1), rfl, ?_⟩
        unfold rnI2 dT dB dE
        rw [hk, hr]; rfl
      · have hr : riP w (at' l p).r.p = true := notF hr
        have hf : (fdR (tblT w (l.take p)) (at' l p).r.p).isSome = false := notTT hf
        refine ⟨(tblT w (l.take p), false, 2), rfl, ?_⟩
        unfold rnI2 dT dB dE
        rw [hk, hr, hf]; rfl
      · have hr : riP w (at' l p).r.p = true := notF hr
        have hf : (fdR (tblT w (l.take p)) (at' l p).r.p).isSome = true := notF hf
        refine ⟨(drR (tblT w (l.take p)) (at' l p).r.p, false, 0), ?_, ?_⟩
        · unfold rnSt2; rw [List.length_map]; rfl
        · unfold rnI2 dT dB dE
          rw [hk, hr, hf]; rfl
    · have h1 : p1 = (dT w (tblT w (l.take p)) (isPut (at' l p)) (at' l p).r, dB w (tblT w (l.take p)) (isPut (at' l p)) (at' l p).r, dE w (tblT w (l.take p)) (isPut (at' l p)) (at' l p).r) := h1
      subst h1
      refine ⟨fun hk => ⟨trivial, tbR_iff.2 T, fun hb => ?_, fun _ => ⟨fun he => ?_, fun _ => ⟨inR (by omega) (by omega), p + 1, ?_, hp, by omega⟩⟩⟩, fun hk => ⟨trivial, tbR_iff.2 T, fun he => ?_, fun _ => ⟨inR (by omega) (by omega), p + 1, ?_, hp, by omega⟩⟩⟩
      · have hk : isPut (at' l p) = true := hk
        rw [hk] at hb
        simp at hb
      · have hk : isPut (at' l p) = true := hk
        rw [hk] at he
        simp at he
      · have hk : isPut (at' l p) = true := hk
        unfold rnSt; rw [e, hk]; rfl
      · have hk : isPut (at' l p) = false := hk
        rw [hk, show dE w (tblT w (l.take p)) false ⟨⟨(at' l p).r.p.a, (at' l p).r.p.b, (at' l p).r.p.len⟩, 0⟩ = dE w (tblT w (l.take p)) false (at' l p).r from dE_drop ..] at he
        simp at he
      · have hk : isPut (at' l p) = false := hk
        unfold rnSt
        rw [e, hk, show dT w (tblT w (l.take p)) false ⟨⟨(at' l p).r.p.a, (at' l p).r.p.b, (at' l p).r.p.len⟩, 0⟩ = dT w (tblT w (l.take p)) false (at' l p).r from dT_drop ..]
        rfl
  · have hp : p = l.length := by
      have := of_decide_eq_false hge
      have : p ≤ l.length := hp0
      omega
    subst hp
    rw [List.take_length]
    exact ⟨rfl, ⟨(List.length_map _).symm, rfl⟩, rfl, trivial⟩

theorem run7_of (h : ∀ e ∈ t7Cs, SpecOK Try.prog e.1 e.2) : SpecOK Try.prog 11 (genSpec [none, pOp] run7F) := by
  refine genSpec_ok (run_ok (l := run7Cs) (run7Cs_ok h) mixed noNG) fun a R hF => ?_
  unfold run7F at hF
  split at hF
  · rename_i w r_l
    obtain ⟨hr_l, hl, hw, hF⟩ := hF
    generalize deO r_l = l at hr_l hl hF
    subst hr_l
    exact ⟨_, hF, rfl, run7_walk w l hw hl⟩
  · exact hF.elim

end Go.Proofs.Ytfpofdlpgocnlaa.L1
end

section
/-
  Layer 7: what the document fixes of one route (awake): its condition.
-/
namespace Go.Proofs.Ytfpofdlpgocnlaa.L1
open Go.Sx Go.Sx.M

noncomputable def awake7Cs : List (FuncId × Sx.Spec) := [(36, genSpec [none, none] makeF), (32, genSpec [none] gnew7F), (33, mutSpec trT [none] gput7F), (15, readSpec trT [] gnodes7F), (14, readSpec trT [] glen7F), (21, readSpec trT [none] gbest7F)]

theorem awake7_run (_u : Unit) : run awake7Cs Try.prog 10 [] [] [.br false, .br false, .br true, .br true, .br true, .br true, .br true, .br true] (comesTo (.bool true)) =
    (((32 : Int) = (32 : Int) ∨ (32 : Int) = (128 : Int) → ((0 : Int) != (0 : Int)) = false ∧ false = false ∧ ([] : List AV) = [] ∧ tbR (32 : Int) (deR []) = true ∧ [AV.agg [AV.w64 (BitVec.ofInt (64 : Nat) (720575940379279360 : Int) &&& mkW (8 : Int)), AV.w64 (BitVec.ofInt (64 : Nat) (0 : Int) &&& mkW ((8 : Int) - (64 : Int))), AV.int IntKind.i64 (clamp (8 : Int)), AV.int IntKind.i64 (7 : Int)]] = [AV.agg [AV.w64 (BitVec.ofInt (64 : Nat) (720575940379279360 : Int) &&& mkW (8 : Int)), AV.w64 (BitVec.ofInt (64 : Nat) (0 : Int) &&& mkW ((8 : Int) - (64 : Int))), AV.int IntKind.i64 (clamp (8 : Int)), AV.int IntKind.i64 (7 : Int)]] ∧ tbR (32 : Int) (deR [AV.agg [AV.w64 (BitVec.ofInt (64 : Nat) (720575940379279360 : Int) &&& mkW (8 : Int)), AV.w64 (BitVec.ofInt (64 : Nat) (0 : Int) &&& mkW ((8 : Int) - (64 : Int))), AV.int IntKind.i64 (clamp (8 : Int)), AV.int IntKind.i64 (7 : Int)]]) = true ∧ (!dB (32 : Int) (deR []) true (Ro.mk (Pf.mk (BitVec.ofInt (64 : Nat) (720575940379279360 : Int) &&& mkW (8 : Int)) (BitVec.ofInt (64 : Nat) (0 : Int) &&& mkW ((8 : Int) - (64 : Int))) (clamp (8 : Int))) (7 : Int))) = true ∧ (dE (32 : Int) (deR []) true (Ro.mk (Pf.mk (BitVec.ofInt (64 : Nat) (720575940379279360 : Int) &&& mkW (8 : Int)) (BitVec.ofInt (64 : Nat) (0 : Int) &&& mkW ((8 : Int) - (64 : Int))) (clamp (8 : Int))) (7 : Int)) == (0 : Int)) = true ∧ [AV.agg [AV.w64 (BitVec.ofInt (64 : Nat) (720575940379279360 : Int) &&& mkW (8 : Int)), AV.w64 (BitVec.ofInt (64 : Nat) (0 : Int) &&& mkW ((8 : Int) - (64 : Int))), AV.int IntKind.i64 (clamp (8 : Int)), AV.int IntKind.i64 (7 : Int)]] = [AV.agg [AV.w64 (BitVec.ofInt (64 : Nat) (720575940379279360 : Int) &&& mkW (8 : Int)), AV.w64 (BitVec.ofInt (64 : Nat) (0 : Int) &&& mkW ((8 : Int) - (64 : Int))), AV.int IntKind.i64 (clamp (8 : Int)), AV.int IntKind.i64 (7 : Int)]] ∧ tbR (32 : Int) (deR [AV.agg [AV.w64 (BitVec.ofInt (64 : Nat) (720575940379279360 : Int) &&& mkW (8 : Int)), AV.w64 (BitVec.ofInt (64 : Nat) (0 : Int) &&& mkW ((8 : Int) - (64 : Int))), AV.int IntKind.i64 (clamp (8 : Int)), AV.int IntKind.i64 (7 : Int)]]) = true ∧ (ndR (deR [AV.agg [AV.w64 (BitVec.ofInt (64 : Nat) (720575940379279360 : Int) &&& mkW (8 : Int)), AV.w64 (BitVec.ofInt (64 : Nat) (0 : Int) &&& mkW ((8 : Int) - (64 : Int))), AV.int IntKind.i64 (clamp (8 : Int)), AV.int IntKind.i64 (7 : Int)]]) == (9 : Int)) = true ∧ Option.isSome (bsR (deR [AV.agg [AV.w64 (BitVec.ofInt (64 : Nat) (720575940379279360 : Int) &&& mkW (8 : Int)), AV.w64 (BitVec.ofInt (64 : Nat) (0 : Int) &&& mkW ((8 : Int) - (64 : Int))), AV.int IntKind.i64 (clamp (8 : Int)), AV.int IntKind.i64 (7 : Int)]]) (BitVec.ofInt (64 : Nat) (720575940379279365 : Int)) (BitVec.ofInt (64 : Nat) (0 : Int))) = true ∧ ((7 : Int) == (7 : Int)) = true ∧ [AV.agg [AV.w64 (BitVec.ofInt (64 : Nat) (720575940379279360 : Int) &&& mkW (8 : Int)), AV.w64 (BitVec.ofInt (64 : Nat) (0 : Int) &&& mkW ((8 : Int) - (64 : Int))), AV.int IntKind.i64 (clamp (8 : Int)), AV.int IntKind.i64 (7 : Int)]] = [AV.agg [AV.w64 (BitVec.ofInt (64 : Nat) (720575940379279360 : Int) &&& mkW (8 : Int)), AV.w64 (BitVec.ofInt (64 : Nat) (0 : Int) &&& mkW ((8 : Int) - (64 : Int))), AV.int IntKind.i64 (clamp (8 : Int)), AV.int IntKind.i64 (7 : Int)]] ∧ tbR (32 : Int) (deR [AV.agg [AV.w64 (BitVec.ofInt (64 : Nat) (720575940379279360 : Int) &&& mkW (8 : Int)), AV.w64 (BitVec.ofInt (64 : Nat) (0 : Int) &&& mkW ((8 : Int) - (64 : Int))), AV.int IntKind.i64 (clamp (8 : Int)), AV.int IntKind.i64 (7 : Int)]]) = true ∧ AV.bool ((↑(List.length (deR [AV.agg [AV.w64 (BitVec.ofInt (64 : Nat) (720575940379279360 : Int) &&& mkW (8 : Int)), AV.w64 (BitVec.ofInt (64 : Nat) (0 : Int) &&& mkW ((8 : Int) - (64 : Int))), AV.int IntKind.i64 (clamp (8 : Int)), AV.int IntKind.i64 (7 : Int)]])) : Int) == (1 : Int)) = AV.bool true) ∧ (¬((32 : Int) = (32 : Int) ∨ (32 : Int) = (128 : Int)) → ((1 : Int) != (0 : Int)) = false ∧ true = false ∧ False)) := by kernel_rfl

theorem awake7_law : ∃ hs, run awake7Cs Try.prog 10 [] [] hs (comesTo (.bool true)) := by
  refine ⟨[.br false, .br false, .br true, .br true, .br true, .br true, .br true, .br true], ?_⟩
  rw [awake7_run ()]
  refine ⟨fun _ => ?_, fun h => absurd (Or.inl rfl) h⟩
  repeat' (apply And.intro)
  all_goals first | kernel_rfl | exact of_decide_eq_true (by kernel_rfl)

theorem awake7_of (h : ∀ e ∈ awake7Cs, SpecOK Try.prog e.1 e.2) : SpecOK Try.prog 10 awakeSpec := by
  obtain ⟨hs, r⟩ := awake7_law
  exact awake_ok (run_ok (l := awake7Cs) h mixed noNG) r

end Go.Proofs.Ytfpofdlpgocnlaa.L1
end

section
/-
  Layer 7: what a family is to the law; the laws' calls.
-/
namespace Go.Proofs.Ytfpofdlpgocnlaa.L1
open Go.Sx Go.Sx.M

def fam7F : List Arg → (Res → Prop) → Prop
  | [.v (.int .i64 w)], R => R (.v (.bool (decide (w = 32 ∨ w = 128))))
  | _, _ => False

theorem fam7_run (w : Int) (r : AV) : run [] Try.prog 9 [.int .i64 w] [] [.fork [] []] (yields (.v r)) =
    (((w == (32 : Int)) = Bool.true → Go.Sx.AV.bool Bool.true = r) ∧ ((w == (32 : Int)) = Bool.false → Go.Sx.AV.bool (w == (128 : Int)) = r)) := by kernel_rfl

theorem fam7_ok : SpecOK Try.prog 9 (genSpec [none] fam7F) := by
  refine genSpec_ok none_ok fun l R hF => ?_
  unfold fam7F at hF
  split at hF
  · rename_i w
    refine ⟨_, hF, rfl, [.fork [] []], ?_⟩
    show run [] Try.prog _ [.int .i64 w] [] _ _
    rw [fam7_run]
    refine ⟨fun h => ?_, fun h => ?_⟩
    · have h : w = 32 := by simpa using h
      subst h; rfl
    · have h : w ≠ 32 := by simpa using h
      by_cases h2 : w = 128
      · subst h2; rfl
      · simp [h, h2]
  · exact hF.elim


noncomputable def l7Cs : List (FuncId × Sx.Spec) := [(10, awakeSpec), (9, genSpec [none] fam7F), (11, genSpec [none, pOp] run7F),
  (32, genSpec [none] gnew7F), (33, mutSpec trT [none] gput7F), (31, mutSpec trT [none] gdrop7F),
  (17, readSpec trT [] gwidth7F), (14, readSpec trT [] glen7F), (15, readSpec trT [] gnodes7F), (18, readSpec trT [] gchain7F), (13, readSpec trT [] gtable7F), (20, readSpec trT [none] gget7F), (22, readSpec trT [none] gcover7F), (21, readSpec trT [none] gbest7F),
  (35, genSpec [pRo] of6F), (24, genSpec [none] one6F), (12, genSpec [pRo, pRefR] same6F), (25, genSpec [none, none] rightF), (29, genSpec [none, none] coversF),
  (34, genSpec [none, pRefR] rrtableF), (27, genSpec [pRefR, none] rrfindF), (23, genSpec [pRefR, none] rrbestF), (28, genSpec [pRefR, none] rrcoverF), (19, genSpec [pRefR] (chnF 1000001)), (16, genSpec [pRefR] ndrF)]

end Go.Proofs.Ytfpofdlpgocnlaa.L1
end

section
/-
  Layer 7: what several laws use.
-/
namespace Go.Sx.M
open Go.Proofs.Ytfpofdlpgocnlaa.L1

/-- A table's routes, put one after the other, in their order or turned. -/
theorem dT_put {w : Int} {l : List Ro} (h : l.length < 256) {r : Ro} (hr : riR w r = true) : dT w l true r = ptR l r := by
  unfold dT
  rw [hr, decide_eq_true h]
  simp

theorem dT_up {w : Int} {l : List Ro} (T : TB w l) {p : Nat} (hp : p < l.length) : dT w (l.take p) true (at' l p) = l.take (p + 1) := by
  have hl := T.most
  have hr := T.right _ (at_mem hp)
  have hk : (l.take p).length < 256 := by rw [List.length_take]; omega
  have Tp : TB w (l.take p) := T.sub (List.take_sublist _ _)
  rw [dT_put hk hr]
  refine tb_ext (ptR_tb Tp hk hr).sorted (T.sub (List.take_sublist _ _)).sorted fun x => ?_
  rw [mem_ptR, take_one hp, List.mem_append, List.mem_singleton]
  constructor
  · rintro (rfl | ⟨h, _⟩)
    · exact .inr rfl
    · exact .inl h
  · rintro (h | rfl)
    · by_cases e : x.p = (at' l p).p
      · exact .inl (T.one (List.mem_of_mem_take h) (at_mem hp) e)
      · exact .inr ⟨h, e⟩
    · exact .inl rfl

theorem mem_drop_one {l : List Ro} {i : Nat} (hi : i < l.length) {x : Ro} : x ∈ l.drop i ↔ x = at' l i ∨ x ∈ l.drop (i + 1) := by
  have e : l[i] = at' l i := by
    have := at_get hi
    rw [List.getElem?_eq_getElem hi] at this
    exact Option.some_inj.1 this
  rw [List.drop_eq_getElem_cons hi, List.mem_cons, e]

theorem dT_down {w : Int} {l : List Ro} (T : TB w l) (hl : l.length < 256) {p : Nat} (hp : p < l.length) : dT w (l.drop (l.length - p)) true (at' l (l.length - 1 - p)) = l.drop (l.length - (p + 1)) := by
  have hi : l.length - 1 - p < l.length := by omega
  have hr := T.right _ (at_mem hi)
  have hk : (l.drop (l.length - p)).length < 256 := by rw [List.length_drop]; omega
  have Tp : TB w (l.drop (l.length - p)) := T.sub (List.drop_sublist _ _)
  rw [dT_put hk hr]
  refine tb_ext (ptR_tb Tp hk hr).sorted (T.sub (List.drop_sublist _ _)).sorted fun x => ?_
  rw [mem_ptR, show l.length - (p + 1) = l.length - 1 - p by omega, mem_drop_one hi, show l.length - 1 - p + 1 = l.length - p by omega]
  constructor
  · rintro (rfl | ⟨h, _⟩)
    · exact .inl rfl
    · exact .inr h
  · rintro (rfl | h)
    · exact .inl rfl
    · by_cases e : x.p = (at' l (l.length - 1 - p)).p
      · exact .inl (T.one (List.mem_of_mem_drop h) (at_mem hi) e)
      · exact .inr ⟨h, e⟩

end Go.Sx.M
namespace Go.Proofs.Ytfpofdlpgocnlaa.L1
open Go.Sx Go.Sx.M

theorem zLe (n : Nat) : (0 + n ≤ n) = True := by simp

theorem u8_wf {n : Int} (h : (Lit.int .u8 n).wf = true) : 0 ≤ n ∧ n < 256 := by
  have h : (decide (IntKind.u8.min ≤ n) && decide (n ≤ IntKind.u8.max)) = true := h
  have e0 : IntKind.u8.min = 0 := by decide
  have e1 : IntKind.u8.max = 255 := by decide
  rw [Bool.and_eq_true, decide_eq_true_eq, decide_eq_true_eq] at h
  omega

end Go.Proofs.Ytfpofdlpgocnlaa.L1
end

