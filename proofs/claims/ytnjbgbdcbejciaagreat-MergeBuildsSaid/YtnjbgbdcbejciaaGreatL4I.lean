/-
  Layer 4: the contract of the document's Merge.
-/
import Derived.Test.YtnjbgbdcbejciaaGreatL4B
import Derived.Test.YtnjbgbdcbejciaaGreatMa
namespace Go.Proofs.YtnjbgbdcbejciaaGreat.L1
open Go.Sx Go.Sx.M

/-- The bit that is gone through, the last one that differs, how many do. -/
structure MgP where
  k : Nat
  j : Int
  c : Nat

def mgL (v w m n : BitVec 64) (k : Nat) : List Bool := (List.range 128).map fun i => if i < k then (bitAt v w i && bitAt m n i) else bitAt v w i
def mgM (m n : BitVec 64) (j : Int) : List Bool := (List.range 128).map fun (i : Nat) => if j = (i : Int) then false else bitAt m n i
def mgV (v w m n : BitVec 64) (j : Int) : List Bool := (List.range 128).map fun (i : Nat) => if j = (i : Int) then false else (bitAt v w i && bitAt m n i)

/-- Do they differ at a bit? -/
def mgD (v w m n c d : BitVec 64) : Nat → Bool := bitAt ((v ^^^ c) &&& m) ((w ^^^ d) &&& n)

def rgSt (F : List Bool → List AV) (v w m n c d p q : BitVec 64) (x : MgP) : St :=
  ⟨[.any, .any, .ptr 0 0 0 true, .ptr 1 0 0 true, .ptr 2 0 0 true, .lit (.bool false), .slice 3 0 128 false, .slice 4 0 128 false, .slice 5 0 128 false, .int .i64 x.j, .int .i64 x.c, .int .i64 x.k, .any, .any, .any, .any, .any, .any, .any, .any, .any, .any, .any, .any, .any, .any, .any, .any, .any, .any, .any, .any, .any, .any, .any, .any, .any, .any, .any, .any, .any, .any, .any, .any, .any, .any, .any, .any, .any, .any, .any, .any, .any, .any, .any, .any, .any, .any, .any, .any, .any, .any, .any, .any, .any, .any, .any, .any, .any, .any, .any, .any, .any, .any, .any, .any, .any],
   [some ⟨true, 51, 4, true, [.agg [.w64 v, .w64 w, .w64 m, .w64 n]]⟩, some ⟨true, 51, 4, true, [.agg [.w64 c, .w64 d, .w64 p, .w64 q]]⟩,
    some ⟨true, 51, 4, true, [.agg [.lit (.int .u64 0), .lit (.int .u64 0), .lit (.int .u64 0), .lit (.int .u64 0)]]⟩,
    some ⟨true, 4, 1, true, F (mgL v w m n x.k)⟩, bx m n, bx c d]⟩
def rgM0 : Modes := ⟨[0, 0, 1, 1, 1, 1, 1, 1, 1, 2, 2, 2, 0, 0, 0, 0, 0, 0, 0, 0, 0, 0, 0, 0, 0, 0, 0, 0, 0, 0, 0, 0, 0, 0, 0, 0, 0, 0, 0, 0, 0, 0, 0, 0, 0, 0, 0, 0, 0, 0, 0, 0, 0, 0, 0, 0, 0, 0, 0, 0, 0, 0, 0, 0, 0, 0, 0, 0, 0, 0, 0, 0, 0, 0, 0, 0, 0], [], [], [], []⟩
def rgM : Modes := ⟨[0, 0, 1, 1, 1, 1, 1, 1, 1, 1, 1, 1, 0, 0, 0, 0, 0, 0, 0, 0, 0, 0, 0, 0, 0, 0, 0, 0, 0, 0, 0, 0, 0, 0, 0, 0, 0, 0, 0, 0, 0, 0, 0, 0, 0, 0, 0, 0, 0, 0, 0, 0, 0, 0, 0, 0, 0, 0, 0, 0, 0, 0, 0, 0, 0, 0, 0, 0, 0, 0, 0, 0, 0, 0, 0, 0, 0], [], [], [], []⟩
def rgI (v w m n c d : BitVec 64) (x : MgP) : Prop := x.k ≤ 128 ∧ x.c = cf (mgD v w m n c d) x.k ∧ -1 ≤ x.j ∧ x.j < x.k ∧ (∀ i, i < x.k → x.j < (i : Int) → mgD v w m n c d i = false) ∧ (1 ≤ x.c → 0 ≤ x.j ∧ mgD v w m n c d x.j.toNat = true)
def rgB (F : List Bool → List AV) (v w m n : BitVec 64) (k : Nat) : List Hint :=
  [.dy, .cell (.bool (bitAt v w k)), .fork [.dy, .cell (.bool (bitAt m n k)), .dy, .rows (F (mgL v w m n (k + 1))), .nw] [.dy, .rows (F (mgL v w m n (k + 1))), .nw]]
def rgH (F : List Bool → List AV) (v w m n c d p q : BitVec 64) : List Hint := [.linv _ ⟨0, -1, 0⟩ (rgSt F v w m n c d p q) (rgI v w m n c d) (fun x => 200 - x.k) rgM0 rgM rgM
  (fun x => [.fork [] [.fork [] [.dy, .rows (F (mgM m n x.j)), .dy, .rows (F (mgV v w m n x.j))]]]) fun x =>
  [.fork [.dy, .cell (.bool (bitAt m n x.k)), .fork [.dy, .cell (.bool (bitAt v w x.k)), .dy, .cell (.bool (bitAt c d x.k)), .fork (.nw :: rgB F v w m n x.k) (rgB F v w m n x.k)] (rgB F v w m n x.k)] []]]

theorem mgD_eq (v w m n c d : BitVec 64) (i : Nat) : mgD v w m n c d i = (bitAt m n i && (!bitAt v w i == bitAt c d i)) := by
  unfold mgD
  rw [bitAt_and, bitAt_xor]
  cases bitAt m n i <;> cases bitAt v w i <;> cases bitAt c d i <;> rfl

theorem cf_two {f : Nat → Bool} {i j N : Nat} (hij : i < j) (hj : j < N) (hi : f i = true) (hf : f j = true) : 2 ≤ cf f N := by
  have h1 : cf f (i + 1) = cf f i + (if f i = true then 1 else 0) := rfl
  have h2 : cf f (j + 1) = cf f j + (if f j = true then 1 else 0) := rfl
  have h3 := cf_mono f (show i + 1 ≤ j by omega)
  have h4 := cf_mono f (show j + 1 ≤ N by omega)
  rw [if_pos hi] at h1
  rw [if_pos hf] at h2
  omega

theorem fits_bools {l : List Bool} {k : Int} {v w : Bool} (h0 : 0 ≤ k) (hk : k < (l.length : Int)) : (Blk.mk w 4 1 true (l.map .bool)).fits (0 + k.toNat) 0 (.bool v) = true := by
  unfold Blk.fits
  rw [Nat.zero_add, List.getElem?_map, List.getElem?_eq_getElem (show k.toNat < l.length by omega)]
  rfl

noncomputable def rwmergeCs : List (FuncId × Sx.Spec) := [(75, genSpec [none] bitsF),
  (73, genSpec [pBool] wordsF)]

theorem rwmerge_run (v w m n c d p q : BitVec 64) (F : List Bool → List AV) (r : AV) : run rwmergeCs Tryz.prog 74 [.agg [.w64 v, .w64 w, .w64 m, .w64 n], .agg [.w64 c, .w64 d, .w64 p, .w64 q]] [] (rgH F v w m n c d p q) (yields (.v r)) =
    ((St.mk [.any, .any, AV.ptr 0 0 0 true, AV.ptr ((0 : Nat) + (1 : Nat)) 0 0 true, AV.ptr ((0 : Nat) + (1 : Nat) + (1 : Nat)) 0 0 true, AV.lit (Value.bool false), AV.slice ((0 : Nat) + (1 : Nat) + (1 : Nat) + (1 : Nat)) 0 (List.length (bitsOf v w)) false, AV.slice ((0 : Nat) + (1 : Nat) + (1 : Nat) + (1 : Nat) + (1 : Nat)) 0 (List.length (bitsOf m n)) false, AV.slice ((0 : Nat) + (1 : Nat) + (1 : Nat) + (1 : Nat) + (1 : Nat) + (1 : Nat)) 0 (List.length (bitsOf c d)) false, AV.int IntKind.i64 (-1), AV.int IntKind.i64 0, AV.int IntKind.i64 0, .any, .any, .any, .any, .any, .any, .any, .any, .any, .any, .any, .any, .any, .any, .any, .any, .any, .any, .any, .any, .any, .any, .any, .any, .any, .any, .any, .any, .any, .any, .any, .any, .any, .any, .any, .any, .any, .any, .any, .any, .any, .any, .any, .any, .any, .any, .any, .any, .any, .any, .any, .any, .any, .any, .any, .any, .any, .any, .any, .any, .any, .any, .any, .any, .any] [some (Blk.mk true 51 4 true [AV.agg [AV.w64 v, AV.w64 w, AV.w64 m, AV.w64 n]]), some (Blk.mk true 51 4 true [AV.agg [AV.w64 c, AV.w64 d, AV.w64 p, AV.w64 q]]), some (Blk.mk true 51 4 true [AV.agg [AV.lit (Value.int IntKind.u64 0), AV.lit (Value.int IntKind.u64 0), AV.lit (Value.int IntKind.u64 0), AV.lit (Value.int IntKind.u64 0)]]), some (Blk.mk true (4 : TypeId) 1 true (bitsOf v w)), some (Blk.mk true (4 : TypeId) 1 true (bitsOf m n)), some (Blk.mk true (4 : TypeId) 1 true (bitsOf c d))] = rgSt F v w m n c d p q (MgP.mk 0 (-1) 0) ∧ rgI v w m n c d (MgP.mk 0 (-1) 0)) ∧ ∀ (p_1 : MgP), rgI v w m n c d p_1 → (Decidable.decide ((↑p_1.1 : Int) < (128 : Int)) = true → ((0 : Int) ≤ (↑p_1.1 : Int) ∧ (↑p_1.1 : Int) < (↑(128 : Nat) : Int)) ∧ Blk.read Proofs.Tryz.prog (Blk.mk true (4 : TypeId) 1 true (bitsOf m n)) 4 ((0 : Nat) + Int.toNat (↑p_1.1 : Int)) 0 = some (AV.bool (bitAt m n p_1.1)) ∧ (bitAt m n p_1.1 = true → ((0 : Int) ≤ (↑p_1.1 : Int) ∧ (↑p_1.1 : Int) < (↑(128 : Nat) : Int)) ∧ Blk.read Proofs.Tryz.prog (Blk.mk true (4 : TypeId) 1 true (F (mgL v w m n p_1.1))) 4 ((0 : Nat) + Int.toNat (↑p_1.1 : Int)) 0 = some (AV.bool (bitAt v w p_1.1)) ∧ ((0 : Int) ≤ (↑p_1.1 : Int) ∧ (↑p_1.1 : Int) < (↑(128 : Nat) : Int)) ∧ Blk.read Proofs.Tryz.prog (Blk.mk true (4 : TypeId) 1 true (bitsOf c d)) 4 ((0 : Nat) + Int.toNat (↑p_1.1 : Int)) 0 = some (AV.bool (bitAt c d p_1.1)) ∧ ((!bitAt v w p_1.1 == bitAt c d p_1.1) = true → inRange IntKind.i64 ((↑p_1.3 : Int) + (1 : Int)) ∧ ((0 : Int) ≤ (↑p_1.1 : Int) ∧ (↑p_1.1 : Int) < (↑(128 : Nat) : Int)) ∧ Blk.read Proofs.Tryz.prog (Blk.mk true (4 : TypeId) 1 true (F (mgL v w m n p_1.1))) 4 ((0 : Nat) + Int.toNat (↑p_1.1 : Int)) 0 = some (AV.bool (bitAt v w p_1.1)) ∧ (bitAt v w p_1.1 = true → ((0 : Int) ≤ (↑p_1.1 : Int) ∧ (↑p_1.1 : Int) < (↑(128 : Nat) : Int)) ∧ Blk.read Proofs.Tryz.prog (Blk.mk true (4 : TypeId) 1 true (bitsOf m n)) 4 ((0 : Nat) + Int.toNat (↑p_1.1 : Int)) 0 = some (AV.bool (bitAt m n p_1.1)) ∧ ((0 : Int) ≤ (↑p_1.1 : Int) ∧ (↑p_1.1 : Int) < (↑(128 : Nat) : Int)) ∧ Blk.fits (Blk.mk true (4 : TypeId) 1 true (F (mgL v w m n p_1.1))) ((0 : Nat) + Int.toNat (↑p_1.1 : Int)) 0 (AV.bool (bitAt m n p_1.1)) = true ∧ Blk.writes (Blk.mk true (4 : TypeId) 1 true (F (mgL v w m n p_1.1))) ((0 : Nat) + Int.toNat (↑p_1.1 : Int)) 0 (AV.bool (bitAt m n p_1.1)) (F (mgL v w m n (p_1.1 + (1 : Nat)))) ∧ inRange IntKind.i64 ((↑p_1.1 : Int) + (1 : Int)) ∧ ∃ (p' : MgP), St.mk [.any, .any, AV.ptr 0 0 0 true, AV.ptr ((0 : Nat) + (1 : Nat)) 0 0 true, AV.ptr ((0 : Nat) + (1 : Nat) + (1 : Nat)) 0 0 true, AV.lit (Value.bool false), AV.slice ((0 : Nat) + (1 : Nat) + (1 : Nat) + (1 : Nat)) 0 128 false, AV.slice ((0 : Nat) + (1 : Nat) + (1 : Nat) + (1 : Nat) + (1 : Nat)) 0 128 false, AV.slice ((0 : Nat) + (1 : Nat) + (1 : Nat) + (1 : Nat) + (1 : Nat) + (1 : Nat)) 0 128 false, AV.int IntKind.i64 (↑p_1.1 : Int), AV.int IntKind.i64 ((↑p_1.3 : Int) + (1 : Int)), AV.int IntKind.i64 ((↑p_1.1 : Int) + (1 : Int)), .any, .any, .any, .any, .any, .any, .any, .any, .any, .any, .any, .any, .any, .any, .any, .any, .any, .any, .any, .any, .any, .any, .any, .any, .any, .any, .any, .any, .any, .any, .any, .any, .any, .any, .any, .any, .any, .any, .any, .any, .any, .any, .any, .any, .any, .any, .any, .any, .any, .any, .any, .any, .any, .any, .any, .any, .any, .any, .any, .any, .any, .any, .any, .any, .any] [some (Blk.mk true (51 : TypeId) 4 true [AV.agg [AV.w64 v, AV.w64 w, AV.w64 m, AV.w64 n]]), some (Blk.mk true (51 : TypeId) 4 true [AV.agg [AV.w64 c, AV.w64 d, AV.w64 p, AV.w64 q]]), some (Blk.mk true (51 : TypeId) 4 true [AV.agg [AV.lit (Value.int IntKind.u64 0), AV.lit (Value.int IntKind.u64 0), AV.lit (Value.int IntKind.u64 0), AV.lit (Value.int IntKind.u64 0)]]), some (Blk.mk true (nat_lit 4) 1 true (F (mgL v w m n (p_1.1 + (1 : Nat))))), some (Blk.mk true (4 : TypeId) 1 true (bitsOf m n)), some (Blk.mk true (4 : TypeId) 1 true (bitsOf c d))] = rgSt F v w m n c d p q p' ∧ rgI v w m n c d p' ∧ (200 : Nat) - p'.1 < (200 : Nat) - p_1.1) ∧ (bitAt v w p_1.1 = false → ((0 : Int) ≤ (↑p_1.1 : Int) ∧ (↑p_1.1 : Int) < (↑(128 : Nat) : Int)) ∧ Blk.fits (Blk.mk true (4 : TypeId) 1 true (F (mgL v w m n p_1.1))) ((0 : Nat) + Int.toNat (↑p_1.1 : Int)) 0 (AV.bool false) = true ∧ Blk.writes (Blk.mk true (4 : TypeId) 1 true (F (mgL v w m n p_1.1))) ((0 : Nat) + Int.toNat (↑p_1.1 : Int)) 0 (AV.bool false) (F (mgL v w m n (p_1.1 + (1 : Nat)))) ∧ inRange IntKind.i64 ((↑p_1.1 : Int) + (1 : Int)) ∧ ∃ (p' : MgP), St.mk [.any, .any, AV.ptr 0 0 0 true, AV.ptr ((0 : Nat) + (1 : Nat)) 0 0 true, AV.ptr ((0 : Nat) + (1 : Nat) + (1 : Nat)) 0 0 true, AV.lit (Value.bool false), AV.slice ((0 : Nat) + (1 : Nat) + (1 : Nat) + (1 : Nat)) 0 128 false, AV.slice ((0 : Nat) + (1 : Nat) + (1 : Nat) + (1 : Nat) + (1 : Nat)) 0 128 false, AV.slice ((0 : Nat) + (1 : Nat) + (1 : Nat) + (1 : Nat) + (1 : Nat) + (1 : Nat)) 0 128 false, AV.int IntKind.i64 (↑p_1.1 : Int), AV.int IntKind.i64 ((↑p_1.3 : Int) + (1 : Int)), AV.int IntKind.i64 ((↑p_1.1 : Int) + (1 : Int)), .any, .any, .any, .any, .any, .any, .any, .any, .any, .any, .any, .any, .any, .any, .any, .any, .any, .any, .any, .any, .any, .any, .any, .any, .any, .any, .any, .any, .any, .any, .any, .any, .any, .any, .any, .any, .any, .any, .any, .any, .any, .any, .any, .any, .any, .any, .any, .any, .any, .any, .any, .any, .any, .any, .any, .any, .any, .any, .any, .any, .any, .any, .any, .any, .any] [some (Blk.mk true (51 : TypeId) 4 true [AV.agg [AV.w64 v, AV.w64 w, AV.w64 m, AV.w64 n]]), some (Blk.mk true (51 : TypeId) 4 true [AV.agg [AV.w64 c, AV.w64 d, AV.w64 p, AV.w64 q]]), some (Blk.mk true (51 : TypeId) 4 true [AV.agg [AV.lit (Value.int IntKind.u64 0), AV.lit (Value.int IntKind.u64 0), AV.lit (Value.int IntKind.u64 0), AV.lit (Value.int IntKind.u64 0)]]), some (Blk.mk true (nat_lit 4) 1 true (F (mgL v w m n (p_1.1 + (1 : Nat))))), some (Blk.mk true (4 : TypeId) 1 true (bitsOf m n)), some (Blk.mk true (4 : TypeId) 1 true (bitsOf c d))] = rgSt F v w m n c d p q p' ∧ rgI v w m n c d p' ∧ (200 : Nat) - p'.1 < (200 : Nat) - p_1.1)) ∧ ((!bitAt v w p_1.1 == bitAt c d p_1.1) = false → ((0 : Int) ≤ (↑p_1.1 : Int) ∧ (↑p_1.1 : Int) < (↑(128 : Nat) : Int)) ∧ Blk.read Proofs.Tryz.prog (Blk.mk true (4 : TypeId) 1 true (F (mgL v w m n p_1.1))) 4 ((0 : Nat) + Int.toNat (↑p_1.1 : Int)) 0 = some (AV.bool (bitAt v w p_1.1)) ∧ (bitAt v w p_1.1 = true → ((0 : Int) ≤ (↑p_1.1 : Int) ∧ (↑p_1.1 : Int) < (↑(128 : Nat) : Int)) ∧ Blk.read Proofs.Tryz.prog (Blk.mk true (4 : TypeId) 1 true (bitsOf m n)) 4 ((0 : Nat) + Int.toNat (↑p_1.1 : Int)) 0 = some (AV.bool (bitAt m n p_1.1)) ∧ ((0 : Int) ≤ (↑p_1.1 : Int) ∧ (↑p_1.1 : Int) < (↑(128 : Nat) : Int)) ∧ Blk.fits (Blk.mk true (4 : TypeId) 1 true (F (mgL v w m n p_1.1))) ((0 : Nat) + Int.toNat (↑p_1.1 : Int)) 0 (AV.bool (bitAt m n p_1.1)) = true ∧ Blk.writes (Blk.mk true (4 : TypeId) 1 true (F (mgL v w m n p_1.1))) ((0 : Nat) + Int.toNat (↑p_1.1 : Int)) 0 (AV.bool (bitAt m n p_1.1)) (F (mgL v w m n (p_1.1 + (1 : Nat)))) ∧ inRange IntKind.i64 ((↑p_1.1 : Int) + (1 : Int)) ∧ ∃ (p' : MgP), St.mk [.any, .any, AV.ptr 0 0 0 true, AV.ptr ((0 : Nat) + (1 : Nat)) 0 0 true, AV.ptr ((0 : Nat) + (1 : Nat) + (1 : Nat)) 0 0 true, AV.lit (Value.bool false), AV.slice ((0 : Nat) + (1 : Nat) + (1 : Nat) + (1 : Nat)) 0 128 false, AV.slice ((0 : Nat) + (1 : Nat) + (1 : Nat) + (1 : Nat) + (1 : Nat)) 0 128 false, AV.slice ((0 : Nat) + (1 : Nat) + (1 : Nat) + (1 : Nat) + (1 : Nat) + (1 : Nat)) 0 128 false, AV.int IntKind.i64 p_1.2, AV.int IntKind.i64 (↑p_1.3 : Int), AV.int IntKind.i64 ((↑p_1.1 : Int) + (1 : Int)), .any, .any, .any, .any, .any, .any, .any, .any, .any, .any, .any, .any, .any, .any, .any, .any, .any, .any, .any, .any, .any, .any, .any, .any, .any, .any, .any, .any, .any, .any, .any, .any, .any, .any, .any, .any, .any, .any, .any, .any, .any, .any, .any, .any, .any, .any, .any, .any, .any, .any, .any, .any, .any, .any, .any, .any, .any, .any, .any, .any, .any, .any, .any, .any, .any] [some (Blk.mk true (51 : TypeId) 4 true [AV.agg [AV.w64 v, AV.w64 w, AV.w64 m, AV.w64 n]]), some (Blk.mk true (51 : TypeId) 4 true [AV.agg [AV.w64 c, AV.w64 d, AV.w64 p, AV.w64 q]]), some (Blk.mk true (51 : TypeId) 4 true [AV.agg [AV.lit (Value.int IntKind.u64 0), AV.lit (Value.int IntKind.u64 0), AV.lit (Value.int IntKind.u64 0), AV.lit (Value.int IntKind.u64 0)]]), some (Blk.mk true (nat_lit 4) 1 true (F (mgL v w m n (p_1.1 + (1 : Nat))))), some (Blk.mk true (4 : TypeId) 1 true (bitsOf m n)), some (Blk.mk true (4 : TypeId) 1 true (bitsOf c d))] = rgSt F v w m n c d p q p' ∧ rgI v w m n c d p' ∧ (200 : Nat) - p'.1 < (200 : Nat) - p_1.1) ∧ (bitAt v w p_1.1 = false → ((0 : Int) ≤ (↑p_1.1 : Int) ∧ (↑p_1.1 : Int) < (↑(128 : Nat) : Int)) ∧ Blk.fits (Blk.mk true (4 : TypeId) 1 true (F (mgL v w m n p_1.1))) ((0 : Nat) + Int.toNat (↑p_1.1 : Int)) 0 (AV.bool false) = true ∧ Blk.writes (Blk.mk true (4 : TypeId) 1 true (F (mgL v w m n p_1.1))) ((0 : Nat) + Int.toNat (↑p_1.1 : Int)) 0 (AV.bool false) (F (mgL v w m n (p_1.1 + (1 : Nat)))) ∧ inRange IntKind.i64 ((↑p_1.1 : Int) + (1 : Int)) ∧ ∃ (p' : MgP), St.mk [.any, .any, AV.ptr 0 0 0 true, AV.ptr ((0 : Nat) + (1 : Nat)) 0 0 true, AV.ptr ((0 : Nat) + (1 : Nat) + (1 : Nat)) 0 0 true, AV.lit (Value.bool false), AV.slice ((0 : Nat) + (1 : Nat) + (1 : Nat) + (1 : Nat)) 0 128 false, AV.slice ((0 : Nat) + (1 : Nat) + (1 : Nat) + (1 : Nat) + (1 : Nat)) 0 128 false, AV.slice ((0 : Nat) + (1 : Nat) + (1 : Nat) + (1 : Nat) + (1 : Nat) + (1 : Nat)) 0 128 false, AV.int IntKind.i64 p_1.2, AV.int IntKind.i64 (↑p_1.3 : Int), AV.int IntKind.i64 ((↑p_1.1 : Int) + (1 : Int)), .any, .any, .any, .any, .any, .any, .any, .any, .any, .any, .any, .any, .any, .any, .any, .any, .any, .any, .any, .any, .any, .any, .any, .any, .any, .any, .any, .any, .any, .any, .any, .any, .any, .any, .any, .any, .any, .any, .any, .any, .any, .any, .any, .any, .any, .any, .any, .any, .any, .any, .any, .any, .any, .any, .any, .any, .any, .any, .any, .any, .any, .any, .any, .any, .any] [some (Blk.mk true (51 : TypeId) 4 true [AV.agg [AV.w64 v, AV.w64 w, AV.w64 m, AV.w64 n]]), some (Blk.mk true (51 : TypeId) 4 true [AV.agg [AV.w64 c, AV.w64 d, AV.w64 p, AV.w64 q]]), some (Blk.mk true (51 : TypeId) 4 true [AV.agg [AV.lit (Value.int IntKind.u64 0), AV.lit (Value.int IntKind.u64 0), AV.lit (Value.int IntKind.u64 0), AV.lit (Value.int IntKind.u64 0)]]), some (Blk.mk true (nat_lit 4) 1 true (F (mgL v w m n (p_1.1 + (1 : Nat))))), some (Blk.mk true (4 : TypeId) 1 true (bitsOf m n)), some (Blk.mk true (4 : TypeId) 1 true (bitsOf c d))] = rgSt F v w m n c d p q p' ∧ rgI v w m n c d p' ∧ (200 : Nat) - p'.1 < (200 : Nat) - p_1.1))) ∧ (bitAt m n p_1.1 = false → ((0 : Int) ≤ (↑p_1.1 : Int) ∧ (↑p_1.1 : Int) < (↑(128 : Nat) : Int)) ∧ Blk.read Proofs.Tryz.prog (Blk.mk true (4 : TypeId) 1 true (F (mgL v w m n p_1.1))) 4 ((0 : Nat) + Int.toNat (↑p_1.1 : Int)) 0 = some (AV.bool (bitAt v w p_1.1)) ∧ (bitAt v w p_1.1 = true → ((0 : Int) ≤ (↑p_1.1 : Int) ∧ (↑p_1.1 : Int) < (↑(128 : Nat) : Int)) ∧ Blk.read Proofs.Tryz.prog (Blk.mk true (4 : TypeId) 1 true (bitsOf m n)) 4 ((0 : Nat) + Int.toNat (↑p_1.1 : Int)) 0 = some (AV.bool (bitAt m n p_1.1)) ∧ ((0 : Int) ≤ (↑p_1.1 : Int) ∧ (↑p_1.1 : Int) < (↑(128 : Nat) : Int)) ∧ Blk.fits (Blk.mk true (4 : TypeId) 1 true (F (mgL v w m n p_1.1))) ((0 : Nat) + Int.toNat (↑p_1.1 : Int)) 0 (AV.bool (bitAt m n p_1.1)) = true ∧ Blk.writes (Blk.mk true (4 : TypeId) 1 true (F (mgL v w m n p_1.1))) ((0 : Nat) + Int.toNat (↑p_1.1 : Int)) 0 (AV.bool (bitAt m n p_1.1)) (F (mgL v w m n (p_1.1 + (1 : Nat)))) ∧ inRange IntKind.i64 ((↑p_1.1 : Int) + (1 : Int)) ∧ ∃ (p' : MgP), St.mk [.any, .any, AV.ptr 0 0 0 true, AV.ptr ((0 : Nat) + (1 : Nat)) 0 0 true, AV.ptr ((0 : Nat) + (1 : Nat) + (1 : Nat)) 0 0 true, AV.lit (Value.bool false), AV.slice ((0 : Nat) + (1 : Nat) + (1 : Nat) + (1 : Nat)) 0 128 false, AV.slice ((0 : Nat) + (1 : Nat) + (1 : Nat) + (1 : Nat) + (1 : Nat)) 0 128 false, AV.slice ((0 : Nat) + (1 : Nat) + (1 : Nat) + (1 : Nat) + (1 : Nat) + (1 : Nat)) 0 128 false, AV.int IntKind.i64 p_1.2, AV.int IntKind.i64 (↑p_1.3 : Int), AV.int IntKind.i64 ((↑p_1.1 : Int) + (1 : Int)), .any, .any, .any, .any, .any, .any, .any, .any, .any, .any, .any, .any, .any, .any, .any, .any, .any, .any, .any, .any, .any, .any, .any, .any, .any, .any, .any, .any, .any, .any, .any, .any, .any, .any, .any, .any, .any, .any, .any, .any, .any, .any, .any, .any, .any, .any, .any, .any, .any, .any, .any, .any, .any, .any, .any, .any, .any, .any, .any, .any, .any, .any, .any, .any, .any] [some (Blk.mk true (51 : TypeId) 4 true [AV.agg [AV.w64 v, AV.w64 w, AV.w64 m, AV.w64 n]]), some (Blk.mk true (51 : TypeId) 4 true [AV.agg [AV.w64 c, AV.w64 d, AV.w64 p, AV.w64 q]]), some (Blk.mk true (51 : TypeId) 4 true [AV.agg [AV.lit (Value.int IntKind.u64 0), AV.lit (Value.int IntKind.u64 0), AV.lit (Value.int IntKind.u64 0), AV.lit (Value.int IntKind.u64 0)]]), some (Blk.mk true (nat_lit 4) 1 true (F (mgL v w m n (p_1.1 + (1 : Nat))))), some (Blk.mk true (4 : TypeId) 1 true (bitsOf m n)), some (Blk.mk true (4 : TypeId) 1 true (bitsOf c d))] = rgSt F v w m n c d p q p' ∧ rgI v w m n c d p' ∧ (200 : Nat) - p'.1 < (200 : Nat) - p_1.1) ∧ (bitAt v w p_1.1 = false → ((0 : Int) ≤ (↑p_1.1 : Int) ∧ (↑p_1.1 : Int) < (↑(128 : Nat) : Int)) ∧ Blk.fits (Blk.mk true (4 : TypeId) 1 true (F (mgL v w m n p_1.1))) ((0 : Nat) + Int.toNat (↑p_1.1 : Int)) 0 (AV.bool false) = true ∧ Blk.writes (Blk.mk true (4 : TypeId) 1 true (F (mgL v w m n p_1.1))) ((0 : Nat) + Int.toNat (↑p_1.1 : Int)) 0 (AV.bool false) (F (mgL v w m n (p_1.1 + (1 : Nat)))) ∧ inRange IntKind.i64 ((↑p_1.1 : Int) + (1 : Int)) ∧ ∃ (p' : MgP), St.mk [.any, .any, AV.ptr 0 0 0 true, AV.ptr ((0 : Nat) + (1 : Nat)) 0 0 true, AV.ptr ((0 : Nat) + (1 : Nat) + (1 : Nat)) 0 0 true, AV.lit (Value.bool false), AV.slice ((0 : Nat) + (1 : Nat) + (1 : Nat) + (1 : Nat)) 0 128 false, AV.slice ((0 : Nat) + (1 : Nat) + (1 : Nat) + (1 : Nat) + (1 : Nat)) 0 128 false, AV.slice ((0 : Nat) + (1 : Nat) + (1 : Nat) + (1 : Nat) + (1 : Nat) + (1 : Nat)) 0 128 false, AV.int IntKind.i64 p_1.2, AV.int IntKind.i64 (↑p_1.3 : Int), AV.int IntKind.i64 ((↑p_1.1 : Int) + (1 : Int)), .any, .any, .any, .any, .any, .any, .any, .any, .any, .any, .any, .any, .any, .any, .any, .any, .any, .any, .any, .any, .any, .any, .any, .any, .any, .any, .any, .any, .any, .any, .any, .any, .any, .any, .any, .any, .any, .any, .any, .any, .any, .any, .any, .any, .any, .any, .any, .any, .any, .any, .any, .any, .any, .any, .any, .any, .any, .any, .any, .any, .any, .any, .any, .any, .any] [some (Blk.mk true (51 : TypeId) 4 true [AV.agg [AV.w64 v, AV.w64 w, AV.w64 m, AV.w64 n]]), some (Blk.mk true (51 : TypeId) 4 true [AV.agg [AV.w64 c, AV.w64 d, AV.w64 p, AV.w64 q]]), some (Blk.mk true (51 : TypeId) 4 true [AV.agg [AV.lit (Value.int IntKind.u64 0), AV.lit (Value.int IntKind.u64 0), AV.lit (Value.int IntKind.u64 0), AV.lit (Value.int IntKind.u64 0)]]), some (Blk.mk true (nat_lit 4) 1 true (F (mgL v w m n (p_1.1 + (1 : Nat))))), some (Blk.mk true (4 : TypeId) 1 true (bitsOf m n)), some (Blk.mk true (4 : TypeId) 1 true (bitsOf c d))] = rgSt F v w m n c d p q p' ∧ rgI v w m n c d p' ∧ (200 : Nat) - p'.1 < (200 : Nat) - p_1.1))) ∧ (Decidable.decide ((↑p_1.1 : Int) < (128 : Int)) = false → ((!(m == p && n == q)) = true → AV.tuple [AV.agg [AV.w64 (BitVec.ofInt 64 0), AV.w64 (BitVec.ofInt 64 0), AV.w64 (BitVec.ofInt 64 0), AV.w64 (BitVec.ofInt 64 0)], AV.bool false] = r) ∧ ((!(m == p && n == q)) = false → (((↑p_1.3 : Int) != (1 : Int)) = true → AV.tuple [AV.agg [AV.w64 (BitVec.ofInt 64 0), AV.w64 (BitVec.ofInt 64 0), AV.w64 (BitVec.ofInt 64 0), AV.w64 (BitVec.ofInt 64 0)], AV.bool false] = r) ∧ (((↑p_1.3 : Int) != (1 : Int)) = false → ((0 : Int) ≤ p_1.2 ∧ p_1.2 < (↑(128 : Nat) : Int)) ∧ Blk.fits (Blk.mk true (4 : TypeId) 1 true (bitsOf m n)) ((0 : Nat) + Int.toNat p_1.2) 0 (AV.bool false) = true ∧ Blk.writes (Blk.mk true (4 : TypeId) 1 true (bitsOf m n)) ((0 : Nat) + Int.toNat p_1.2) 0 (AV.bool false) (F (mgM m n p_1.2)) ∧ ((0 : Int) ≤ p_1.2 ∧ p_1.2 < (↑(128 : Nat) : Int)) ∧ Blk.fits (Blk.mk true (4 : TypeId) 1 true (F (mgL v w m n p_1.1))) ((0 : Nat) + Int.toNat p_1.2) 0 (AV.bool false) = true ∧ Blk.writes (Blk.mk true (4 : TypeId) 1 true (F (mgL v w m n p_1.1))) ((0 : Nat) + Int.toNat p_1.2) 0 (AV.bool false) (F (mgV v w m n p_1.2)) ∧ (0 : Nat) + (128 : Nat) ≤ List.length (F (mgV v w m n p_1.2)) ∧ ∃ (l : List Bool), List.take 128 (List.drop 0 (F (mgV v w m n p_1.2))) = List.map AV.bool l ∧ List.length l = (128 : Nat) ∧ (0 : Nat) + (128 : Nat) ≤ List.length (F (mgM m n p_1.2)) ∧ ∃ (l_1 : List Bool), List.take 128 (List.drop 0 (F (mgM m n p_1.2))) = List.map AV.bool l_1 ∧ List.length l_1 = (128 : Nat) ∧ AV.tuple [AV.agg [AV.w64 (W (fun (i : Nat) => List.getD l ((0 : Nat) + i) false) 64), AV.w64 (W (fun (i : Nat) => List.getD l ((64 : Nat) + i) false) 64), AV.w64 (W (fun (i : Nat) => List.getD l_1 ((0 : Nat) + i) false) 64), AV.w64 (W (fun (i : Nat) => List.getD l_1 ((64 : Nat) + i) false) 64)], AV.bool true] = r)))) := by kernel_rfl

theorem rwmergeCs_ok : ∀ e ∈ rwmergeCs, SpecOK Tryz.prog e.1 e.2 := by
  intro e he
  simp only [rwmergeCs, List.mem_cons, List.not_mem_nil, or_false] at he
  rcases he with rfl | rfl
  · exact bits_ok
  · exact words_ok

theorem rwmerge_ok : SpecOK Tryz.prog 74 (genSpec [none, none] wmergeF) := by
  refine genSpec_ok (run_ok (l := rwmergeCs) rwmergeCs_ok mixed noNG) fun l R hF => ?_
  unfold wmergeF at hF
  split at hF
  · rename_i v w m n c d p q
    refine ⟨_, hF, rfl, (rgH (List.map .bool) v w m n c d p q), ?_⟩
    show run rwmergeCs Tryz.prog _ [.agg [.w64 v, .w64 w, .w64 m, .w64 n], .agg [.w64 c, .w64 d, .w64 p, .w64 q]] [] _ _
    rw [rwmerge_run]
    have row0 : (mgL v w m n 0).map AV.bool = bitsOf v w := by
      unfold mgL bitsOf
      rw [List.map_map]
      exact List.map_congr_left fun i hi => rfl
    have mg0 : mgB v w m n c d p q = false → AV.tuple [.agg [.w64 (BitVec.ofInt 64 0), .w64 (BitVec.ofInt 64 0), .w64 (BitVec.ofInt 64 0), .w64 (BitVec.ofInt 64 0)], .bool false] = AV.tuple [.agg [.w64 (selW (mgB v w m n c d p q) (v &&& (m ^^^ (v ^^^ c) &&& m))), .w64 (selW (mgB v w m n c d p q) (w &&& (n ^^^ (w ^^^ d) &&& n))), .w64 (selW (mgB v w m n c d p q) (m ^^^ (v ^^^ c) &&& m)), .w64 (selW (mgB v w m n c d p q) (n ^^^ (w ^^^ d) &&& n))], .bool (mgB v w m n c d p q)] := fun h => by rw [h]; rfl
    refine ⟨⟨by unfold rgSt; rw [row0]; rfl, by simp, rfl, by simp, by simp, fun i hi => absurd hi (by simp), fun h => absurd h (by simp)⟩, ?_⟩
    rintro ⟨k, j, e⟩ ⟨h1, h2, h3, h4, h5, h6⟩
    dsimp only at h1 h2 h3 h4 h5 h6 ⊢
    have ll : ∀ x, (mgL v w m n x).length = 128 := fun x => by simp [mgL]
    refine ⟨fun hlt => ?_, fun hge => ?_⟩
    · have hk : k < 128 := by simp only [decide_eq_true_eq] at hlt; omega
      have B : 0 ≤ (k : Int) ∧ (k : Int) < ((128 : Nat) : Int) := by omega
      have rd : (Blk.mk true 4 1 true ((mgL v w m n k).map .bool)).read Tryz.prog 4 (0 + (k : Int).toNat) 0 = some (.bool (bitAt v w k)) := read_bool (by omega) (by rw [ll]; omega) (by
        unfold mgL
        rw [List.getD_eq_getElem?_getD, List.getElem?_map, List.getElem?_range (by omega), Option.map_some, Option.getD_some]
        rw [if_neg (by omega)]; rfl)
      have rm : (Blk.mk true 4 1 true (bitsOf m n)).read Tryz.prog 4 (0 + (k : Int).toNat) 0 = some (.bool (bitAt m n k)) := read_bits (by omega) (by omega) rfl
      have i1 : inRange .i64 ((k : Int) + 1) := inR (by omega) (by omega)
      have wr : ∀ x : Bool, x = (bitAt v w k && bitAt m n k) → (Blk.mk true 4 1 true ((mgL v w m n k).map .bool)).writes (0 + (k : Int).toNat) 0 (.bool x) ((mgL v w m n (k + 1)).map .bool) := fun x hx =>
        writes_map (f := fun i => if i < k then (bitAt v w i && bitAt m n i) else bitAt v w i) (g := fun i => if i < k + 1 then (bitAt v w i && bitAt m n i) else bitAt v w i) (by omega) (by omega) fun i hi => by
          by_cases hik : (k : Int) = (i : Int)
          · have : k = i := by omega
            subst this
            rw [if_pos rfl, if_pos (by omega), hx]
          · rw [if_neg hik]
            by_cases hl : i < k
            · rw [if_pos hl, if_pos (by omega)]
            · rw [if_neg hl, if_neg (by omega)]
      have ft : ∀ x : Bool, (Blk.mk true 4 1 true ((mgL v w m n k).map .bool)).fits (0 + (k : Int).toNat) 0 (.bool x) = true := fun x => fits_bools (by omega) (by rw [ll]; omega)
      have ec : cf (mgD v w m n c d) (k + 1) = cf (mgD v w m n c d) k + (if mgD v w m n c d k = true then 1 else 0) := rfl
      have eD := mgD_eq v w m n c d k
      have cle : e ≤ k := by
        have hle : ∀ f N, cf f N ≤ N := by
          intro f N
          induction N with
          | zero => exact Nat.le_refl _
          | succ N ih => simp only [cf]; split <;> omega
        have := hle (mgD v w m n c d) k; omega
      -- a bit that differs
      have yes : mgD v w m n c d k = true → ∃ p', rgSt (List.map AV.bool) v w m n c d p q ⟨k + 1, k, e + 1⟩ = rgSt (List.map AV.bool) v w m n c d p q p' ∧ rgI v w m n c d p' ∧ 200 - p'.k < 200 - k := fun hD =>
        ⟨⟨k + 1, k, e + 1⟩, rfl, ⟨by dsimp only; omega, by dsimp only; rw [ec, if_pos hD, h2], by dsimp only; omega, by dsimp only; omega, fun i hi hj => by dsimp only at hi hj; omega, fun _ => ⟨by dsimp only; omega, hD⟩⟩, by dsimp only; omega⟩
      have no : mgD v w m n c d k = false → ∃ p', rgSt (List.map AV.bool) v w m n c d p q ⟨k + 1, j, e⟩ = rgSt (List.map AV.bool) v w m n c d p q p' ∧ rgI v w m n c d p' ∧ 200 - p'.k < 200 - k := fun hD =>
        ⟨⟨k + 1, j, e⟩, rfl, ⟨by dsimp only; omega, by dsimp only; rw [ec, if_neg (by rw [hD]; simp), h2]; rfl, by dsimp only; omega, by dsimp only; omega, fun i hi hj => by
          dsimp only at hi hj
          rcases Nat.lt_or_eq_of_le (Nat.le_of_lt_succ hi) with h | rfl
          · exact h5 i h hj
          · exact hD, h6⟩, by dsimp only; omega⟩
      refine ⟨B, rm, fun hm => ⟨B, rd, B, read_bits (by omega) (by omega) rfl, fun hne => ⟨inR (by omega) (by omega), B, rd, fun hv => ⟨B, rm, B, ft _, wr _ (by rw [hv, Bool.true_and]), i1, yes (by rw [eD, hm, hne]; rfl)⟩, fun hv => ⟨B, ft _, wr _ (by rw [hv, Bool.false_and]), i1, yes (by rw [eD, hm, hne]; rfl)⟩⟩,
          fun he => ⟨B, rd, fun hv => ⟨B, rm, B, ft _, wr _ (by rw [hv, Bool.true_and]), i1, no (by rw [eD, hm, he]; rfl)⟩, fun hv => ⟨B, ft _, wr _ (by rw [hv, Bool.false_and]), i1, no (by rw [eD, hm, he]; rfl)⟩⟩⟩,
        fun hm => ⟨B, rd, fun hv => ⟨B, rm, B, ft _, wr _ (by rw [hv, Bool.true_and]), i1, no (by rw [eD, hm]; rfl)⟩, fun hv => ⟨B, ft _, wr _ (by rw [hv, Bool.false_and]), i1, no (by rw [eD, hm]; rfl)⟩⟩⟩
    · have hk : k = 128 := by simp only [decide_eq_false_iff_not] at hge; omega
      subst hk
      have hmg : mgB v w m n c d p q = ((m == p && n == q) && e == 1) := by
        rw [h2]; rfl
      refine ⟨fun hne => mg0 (by rw [hmg, show (m == p && n == q) = false from by simpa only [Bool.not_eq_true'] using hne, Bool.false_and]), fun heq => ⟨fun hne => mg0 ?_, fun he => ?_⟩⟩
      · rw [hmg]
        simp only [bne_iff_ne, ne_eq] at hne
        rw [show (e == 1) = false from by rw [beq_eq_false_iff_ne]; omega, Bool.and_false]
      · have e1 : e = 1 := by simp only [bne_eq_false_iff_eq] at he; omega
        have ht : mgB v w m n c d p q = true := by rw [hmg, show (m == p && n == q) = true from by simpa only [Bool.not_eq_false'] using heq, e1]; rfl
        obtain ⟨j0, jD⟩ := h6 (by omega)
        have uniq : ∀ i : Nat, i < 128 → ((j = (i : Int)) ↔ mgD v w m n c d i = true) := fun i hi => by
          refine ⟨fun h => by rw [show j.toNat = i from by omega] at jD; exact jD, fun h => ?_⟩
          by_cases hlt : i < j.toNat
          · have := cf_two hlt (show j.toNat < 128 by omega) h jD
            omega
          · by_cases hgt : j < (i : Int)
            · rw [h5 i hi hgt] at h; cases h
            · omega
        have em : ∀ i : Nat, i < 128 → (if j = (i : Int) then false else bitAt m n i) = bitAt (m ^^^ (v ^^^ c) &&& m) (n ^^^ (w ^^^ d) &&& n) i := fun i hi => by
          rw [bitAt_xor, show bitAt ((v ^^^ c) &&& m) ((w ^^^ d) &&& n) i = mgD v w m n c d i from rfl]
          by_cases h : j = (i : Int)
          · have hD := (uniq i hi).1 h
            have hm : bitAt m n i = true := by rw [mgD_eq] at hD; exact (Bool.and_eq_true_iff.1 hD).1
            rw [if_pos h, hD, hm]; rfl
          · have hD : mgD v w m n c d i = false := by
              cases hh : mgD v w m n c d i with
              | false => rfl
              | true => exact absurd ((uniq i hi).2 hh) h
            rw [if_neg h, hD, Bool.xor_false]
        have ev : ∀ i : Nat, i < 128 → (if j = (i : Int) then false else (bitAt v w i && bitAt m n i)) = bitAt (v &&& (m ^^^ (v ^^^ c) &&& m)) (w &&& (n ^^^ (w ^^^ d) &&& n)) i := fun i hi => by
          rw [bitAt_and, ← em i hi]
          by_cases h : j = (i : Int)
          · rw [if_pos h, if_pos h, Bool.and_false]
          · rw [if_neg h, if_neg h]
        have B : 0 ≤ j ∧ j < ((128 : Nat) : Int) := by omega
        have fm : (Blk.mk true 4 1 true (bitsOf m n)).fits (0 + j.toNat) 0 (.bool false) = true := by
          have e0 : bitsOf m n = ((List.range 128).map (bitAt m n)).map .bool := by unfold bitsOf; rw [List.map_map]; rfl
          rw [e0]; exact fits_bools (by omega) (by simp; omega)
        have wm : (Blk.mk true 4 1 true (bitsOf m n)).writes (0 + j.toNat) 0 (.bool false) ((mgM m n j).map .bool) := by
          have e0 : bitsOf m n = ((List.range 128).map (bitAt m n)).map .bool := by unfold bitsOf; rw [List.map_map]; rfl
          rw [e0]
          exact writes_map (f := bitAt m n) (by omega) (by omega) fun i hi => rfl
        have fv : (Blk.mk true 4 1 true ((mgL v w m n 128).map .bool)).fits (0 + j.toNat) 0 (.bool false) = true := fits_bools (by omega) (by rw [ll]; omega)
        have wv : (Blk.mk true 4 1 true ((mgL v w m n 128).map .bool)).writes (0 + j.toNat) 0 (.bool false) ((mgV v w m n j).map .bool) :=
          writes_map (f := fun i => if i < 128 then (bitAt v w i && bitAt m n i) else bitAt v w i) (by omega) (by omega) fun i hi => by
            by_cases h : j = (i : Int)
            · rw [if_pos h, if_pos h]
            · rw [if_neg h, if_neg h, if_pos hi]
        obtain ⟨a1, a2⟩ := wd_bits (fun (i : Nat) => if j = (i : Int) then false else (bitAt v w i && bitAt m n i)) _ _ ev
        obtain ⟨b1, b2⟩ := wd_bits (fun (i : Nat) => if j = (i : Int) then false else bitAt m n i) _ _ em
        refine ⟨B, fm, wm, B, fv, wv, by simp [mgV], mgV v w m n j, by rw [List.drop_zero, List.take_of_length_le (by simp [mgV])], by simp [mgV], by simp [mgM], mgM m n j, by rw [List.drop_zero, List.take_of_length_le (by simp [mgM])], by simp [mgM], ?_⟩
        show AV.tuple [.agg [.w64 (wd (mgV v w m n j) 0 64), .w64 (wd (mgV v w m n j) 64 64), .w64 (wd (mgM m n j) 0 64), .w64 (wd (mgM m n j) 64 64)], .bool true] = _
        unfold mgV mgM
        rw [a1, a2, b1, b2, ht]
        rfl
  · exact hF.elim


end Go.Proofs.YtnjbgbdcbejciaaGreat.L1
