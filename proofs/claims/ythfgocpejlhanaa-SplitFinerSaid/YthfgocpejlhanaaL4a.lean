/-
  Texts in one: L4A L4B L4G.
-/
import Derived.Test.YthfgocpejlhanaaL2a
import Derived.Test.YthfgocpejlhanaaL1a
import Derived.Test.YthfgocpejlhanaaMa

section
/-
  Layer 4: contracts of the program's words: Right, Of, Match, Covers, Meet, Both, Merge, Free.
-/
namespace Go.Proofs.Ythfgocpejlhanaa.L1
open Go.Sx Go.Sx.M

theorem mkW_clamp (n : Int) : mkW (clamp n) = mkW n ∧ mkW (clamp n - 64) = mkW (n - 64) :=
  ⟨mkW_congr fun i hi => by unfold clamp; omega, mkW_congr fun i hi => by unfold clamp; omega⟩

def wmatchF : List Arg → (Res → Prop) → Prop
  | [.v (.agg [.w64 v, .w64 w, .w64 m, .w64 n]), .v (.agg [.w64 a, .w64 b])], R => R (.v (.bool (wmB v w m n a b)))
  | _, _ => False

theorem wmatch_run (v w m n a b : BitVec 64) (r : AV) : run [] Try.prog 24 [.agg [.w64 v, .w64 w, .w64 m, .w64 n], .agg [.w64 a, .w64 b]] [] [] (yields (.v r)) =
    (Go.Sx.AV.bool (a &&& m == v &&& m && b &&& n == w &&& n) = r) := by kernel_rfl

theorem wmatch_ok : SpecOK Try.prog 24 (genSpec [none, none] wmatchF) := by
  refine genSpec_ok none_ok fun l R hF => ?_
  unfold wmatchF at hF
  split at hF
  · rename_i v w m n a b
    refine ⟨_, hF, rfl, [], ?_⟩
    show run [] Try.prog _ [.agg [.w64 v, .w64 w, .w64 m, .w64 n], .agg [.w64 a, .w64 b]] [] _ _
    rw [wmatch_run]
    all_goals rfl
  · exact hF.elim


def wmeetF : List Arg → (Res → Prop) → Prop
  | [.v (.agg [.w64 v, .w64 w, .w64 m, .w64 n]), .v (.agg [.w64 c, .w64 d, .w64 p, .w64 q])], R => R (.v (.bool (wtB v w m n c d p q)))
  | _, _ => False

theorem wmeet_run (v w m n c d p q : BitVec 64) (r : AV) : run [] Try.prog 30 [.agg [.w64 v, .w64 w, .w64 m, .w64 n], .agg [.w64 c, .w64 d, .w64 p, .w64 q]] [] [] (yields (.v r)) =
    (Go.Sx.AV.bool ((v ^^^ c) &&& (m &&& p) == BitVec.ofInt (64 : Nat) (0 : Int) && (w ^^^ d) &&& (n &&& q) == BitVec.ofInt (64 : Nat) (0 : Int)) = r) := by kernel_rfl

theorem wmeet_ok : SpecOK Try.prog 30 (genSpec [none, none] wmeetF) := by
  refine genSpec_ok none_ok fun l R hF => ?_
  unfold wmeetF at hF
  split at hF
  · rename_i v w m n c d p q
    refine ⟨_, hF, rfl, [], ?_⟩
    show run [] Try.prog _ [.agg [.w64 v, .w64 w, .w64 m, .w64 n], .agg [.w64 c, .w64 d, .w64 p, .w64 q]] [] _ _
    rw [wmeet_run]
    all_goals rfl
  · exact hF.elim


def wbothF : List Arg → (Res → Prop) → Prop
  | [.v (.agg [.w64 v, .w64 w, .w64 m, .w64 n]), .v (.agg [.w64 c, .w64 d, .w64 p, .w64 q])], R => R (.v (.tuple [.agg [.w64 (selW (wtB v w m n c d p q) (v &&& m ||| c &&& p)), .w64 (selW (wtB v w m n c d p q) (w &&& n ||| d &&& q)), .w64 (selW (wtB v w m n c d p q) (m ||| p)), .w64 (selW (wtB v w m n c d p q) (n ||| q))], .bool (wtB v w m n c d p q)]))
  | _, _ => False

noncomputable def wbothCs : List (FuncId × Sx.Spec) := [(30, genSpec [none, none] wmeetF)]

theorem wboth_run (v w m n c d p q : BitVec 64) (r : AV) : run wbothCs Try.prog 27 [.agg [.w64 v, .w64 w, .w64 m, .w64 n], .agg [.w64 c, .w64 d, .w64 p, .w64 q]] [] [.fork [] []] (yields (.v r)) =
    (((!Go.Sx.M.wtB v w m n c d p q) = Bool.true → Go.Sx.AV.tuple [Go.Sx.AV.agg [Go.Sx.AV.w64 (BitVec.ofInt (64 : Nat) (0 : Int)), Go.Sx.AV.w64 (BitVec.ofInt (64 : Nat) (0 : Int)), Go.Sx.AV.w64 (BitVec.ofInt (64 : Nat) (0 : Int)), Go.Sx.AV.w64 (BitVec.ofInt (64 : Nat) (0 : Int))], Go.Sx.AV.bool Bool.false] = r) ∧ ((!Go.Sx.M.wtB v w m n c d p q) = Bool.false → Go.Sx.AV.tuple [Go.Sx.AV.agg [Go.Sx.AV.w64 (v &&& m ||| c &&& p), Go.Sx.AV.w64 (w &&& n ||| d &&& q), Go.Sx.AV.w64 (m ||| p), Go.Sx.AV.w64 (n ||| q)], Go.Sx.AV.bool Bool.true] = r)) := by kernel_rfl

theorem wbothCs_ok : ∀ e ∈ wbothCs, SpecOK Try.prog e.1 e.2 := by
  intro e he
  simp only [wbothCs, List.mem_cons, List.not_mem_nil, or_false] at he
  rcases he with rfl
  · exact wmeet_ok

theorem wboth_ok : SpecOK Try.prog 27 (genSpec [none, none] wbothF) := by
  refine genSpec_ok (run_ok (l := wbothCs) wbothCs_ok mixed noNG) fun l R hF => ?_
  unfold wbothF at hF
  split at hF
  · rename_i v w m n c d p q
    refine ⟨_, hF, rfl, [.fork [] []], ?_⟩
    show run wbothCs Try.prog _ [.agg [.w64 v, .w64 w, .w64 m, .w64 n], .agg [.w64 c, .w64 d, .w64 p, .w64 q]] [] _ _
    rw [wboth_run]
    refine ⟨fun h => ?_, fun h => ?_⟩
    · rw [show wtB v w m n c d p q = false from by simpa using h]; rfl
    · rw [show wtB v w m n c d p q = true from by simpa using h]; rfl
  · exact hF.elim


def wofF : List Arg → (Res → Prop) → Prop
  | [.v (.agg [.w64 a, .w64 b, .int .i64 k])], R => R (.v (.agg [.w64 (a &&& mkW k), .w64 (b &&& mkW (k - 64)), .w64 (mkW k), .w64 (mkW (k - 64))]))
  | _, _ => False

noncomputable def wofCs : List (FuncId × Sx.Spec) := [(38, genSpec [none] maskF),
  (26, genSpec [none, none] makeF)]

theorem wof_run (a b : BitVec 64) (k : Int) (r : AV) : run wofCs Try.prog 25 [.agg [.w64 a, .w64 b, .int .i64 k]] [] [] (yields (.v r)) =
    (Go.Sx.AV.agg [Go.Sx.AV.w64 (a &&& Go.Proofs.Ythfgocpejlhanaa.L1.mkW k), Go.Sx.AV.w64 (b &&& Go.Proofs.Ythfgocpejlhanaa.L1.mkW (k - (64 : Int))), Go.Sx.AV.w64 (Go.Proofs.Ythfgocpejlhanaa.L1.mkW (Go.Proofs.Ythfgocpejlhanaa.L1.clamp k)), Go.Sx.AV.w64 (Go.Proofs.Ythfgocpejlhanaa.L1.mkW (Go.Proofs.Ythfgocpejlhanaa.L1.clamp k - (64 : Int)))] = r) := by kernel_rfl

theorem wofCs_ok : ∀ e ∈ wofCs, SpecOK Try.prog e.1 e.2 := by
  intro e he
  simp only [wofCs, List.mem_cons, List.not_mem_nil, or_false] at he
  rcases he with rfl | rfl
  · exact amask_ok
  · exact pmake_ok

theorem wof_ok : SpecOK Try.prog 25 (genSpec [none] wofF) := by
  refine genSpec_ok (run_ok (l := wofCs) wofCs_ok mixed noNG) fun l R hF => ?_
  unfold wofF at hF
  split at hF
  · rename_i a b k
    refine ⟨_, hF, rfl, [], ?_⟩
    show run wofCs Try.prog _ [.agg [.w64 a, .w64 b, .int .i64 k]] [] _ _
    rw [wof_run]
    rw [(mkW_clamp k).1, (mkW_clamp k).2]
  · exact hF.elim


end Go.Proofs.Ythfgocpejlhanaa.L1
end

section
/-
  Layer 4: contracts of the document's Match, Covers, Meet.
-/
namespace Go.Proofs.Ythfgocpejlhanaa.L1
open Go.Sx Go.Sx.M

def bx (x y : BitVec 64) : Option Blk := some ⟨true, 4, 1, true, bitsOf x y⟩

def wmSt (v w m n a b : BitVec 64) (k : Nat) : St :=
  ⟨[.any, .any, .any, .any, .lit (.bool false), .slice 2 0 128 false, .slice 3 0 128 false, .slice 4 0 128 false, .int .i64 k, .any, .any, .any, .any, .any, .any, .any, .any, .any, .any, .any, .any, .any, .any, .any, .any, .any, .any, .any, .any, .any, .any, .any, .any, .any, .any, .any], [none, none, bx v w, bx m n, bx a b]⟩
def wmM0 : Modes := ⟨[0, 0, 0, 0, 1, 1, 1, 1, 2, 0, 0, 0, 0, 0, 0, 0, 0, 0, 0, 0, 0, 0, 0, 0, 0, 0, 0, 0, 0, 0, 0, 0, 0, 0, 0, 0], [0, 1, 2, 3, 4], [0, 0, 1, 1, 1], [], []⟩
def wmM : Modes := ⟨[0, 0, 0, 0, 1, 1, 1, 1, 1, 0, 0, 0, 0, 0, 0, 0, 0, 0, 0, 0, 0, 0, 0, 0, 0, 0, 0, 0, 0, 0, 0, 0, 0, 0, 0, 0], [0, 1, 2, 3, 4], [0, 0, 1, 1, 1], [], []⟩
def wmI (v w m n a b : BitVec 64) (k : Nat) : Prop := k ≤ 128 ∧ ∀ i, i < k → bitAt m n i = true → bitAt v w i = bitAt a b i
def wmH (v w m n a b : BitVec 64) : List Hint := [.linv _ 0 (wmSt v w m n a b) (wmI v w m n a b) (fun k => 200 - k) wmM0 wmM wmM (fun _ => []) fun k =>
  [.fork [.dy, .cell (.bool (bitAt m n k)), .fork [.dy, .cell (.bool (bitAt v w k)), .dy, .cell (.bool (bitAt a b k)), .fork [] [.nw]] [.nw]] []]]

noncomputable def rwmatchCs : List (FuncId × Sx.Spec) := [(32, genSpec [none] bitsF)]

theorem rwmatch_run (v w m n a b : BitVec 64) (r : AV) : run rwmatchCs Try.prog 45 [.agg [.w64 v, .w64 w, .w64 m, .w64 n], .agg [.w64 a, .w64 b]] [] (wmH v w m n a b) (yields (.v r)) =
    ((St.mk [AV.any, AV.any, AV.any, AV.any, AV.lit (Value.bool false), AV.slice ((0 : Nat) + (1 : Nat) + (1 : Nat)) (0 : Nat) (List.length (bitsOf v w)) false, AV.slice ((0 : Nat) + (1 : Nat) + (1 : Nat) + (1 : Nat)) (0 : Nat) (List.length (bitsOf m n)) false, AV.slice ((0 : Nat) + (1 : Nat) + (1 : Nat) + (1 : Nat) + (1 : Nat)) (0 : Nat) (List.length (bitsOf a b)) false, AV.int IntKind.i64 (0 : Int), AV.any, AV.any, AV.any, AV.any, AV.any, AV.any, AV.any, AV.any, AV.any, AV.any, AV.any, AV.any, AV.any, AV.any, AV.any, AV.any, AV.any, AV.any, AV.any, AV.any, AV.any, AV.any, AV.any, AV.any, AV.any, AV.any, AV.any] [none, none, some (Blk.mk true (4 : TypeId) (1 : Nat) true (bitsOf v w)), some (Blk.mk true (4 : TypeId) (1 : Nat) true (bitsOf m n)), some (Blk.mk true (4 : TypeId) (1 : Nat) true (bitsOf a b))] = wmSt v w m n a b (0 : Nat) ∧ wmI v w m n a b (0 : Nat)) ∧ ∀ (p : Nat), wmI v w m n a b p → (Decidable.decide ((↑p : Int) < (128 : Int)) = true → ((0 : Int) ≤ (↑p : Int) ∧ (↑p : Int) < (↑(128 : Nat) : Int)) ∧ Blk.read Proofs.Try.prog (Blk.mk true (4 : TypeId) (1 : Nat) true (bitsOf m n)) (4 : Nat) ((0 : Nat) + Int.toNat (↑p : Int)) (0 : Nat) = some (AV.bool (bitAt m n p)) ∧ (bitAt m n p = true → ((0 : Int) ≤ (↑p : Int) ∧ (↑p : Int) < (↑(128 : Nat) : Int)) ∧ Blk.read Proofs.Try.prog (Blk.mk true (4 : TypeId) (1 : Nat) true (bitsOf v w)) (4 : Nat) ((0 : Nat) + Int.toNat (↑p : Int)) (0 : Nat) = some (AV.bool (bitAt v w p)) ∧ ((0 : Int) ≤ (↑p : Int) ∧ (↑p : Int) < (↑(128 : Nat) : Int)) ∧ Blk.read Proofs.Try.prog (Blk.mk true (4 : TypeId) (1 : Nat) true (bitsOf a b)) (4 : Nat) ((0 : Nat) + Int.toNat (↑p : Int)) (0 : Nat) = some (AV.bool (bitAt a b p)) ∧ ((!bitAt v w p == bitAt a b p) = true → AV.bool false = r) ∧ ((!bitAt v w p == bitAt a b p) = false → inRange IntKind.i64 ((↑p : Int) + (1 : Int)) ∧ ∃ (p' : Nat), St.mk [AV.any, AV.any, AV.any, AV.any, AV.lit (Value.bool false), AV.slice ((0 : Nat) + (1 : Nat) + (1 : Nat)) (0 : Nat) (128 : Nat) false, AV.slice ((0 : Nat) + (1 : Nat) + (1 : Nat) + (1 : Nat)) (0 : Nat) (128 : Nat) false, AV.slice ((0 : Nat) + (1 : Nat) + (1 : Nat) + (1 : Nat) + (1 : Nat)) (0 : Nat) (128 : Nat) false, AV.int IntKind.i64 ((↑p : Int) + (1 : Int)), AV.any, AV.any, AV.any, AV.any, AV.any, AV.any, AV.any, AV.any, AV.any, AV.any, AV.any, AV.any, AV.any, AV.any, AV.any, AV.any, AV.any, AV.any, AV.any, AV.any, AV.any, AV.any, AV.any, AV.any, AV.any, AV.any, AV.any] [none, none, some (Blk.mk true (4 : TypeId) (1 : Nat) true (bitsOf v w)), some (Blk.mk true (4 : TypeId) (1 : Nat) true (bitsOf m n)), some (Blk.mk true (4 : TypeId) (1 : Nat) true (bitsOf a b))] = wmSt v w m n a b p' ∧ wmI v w m n a b p' ∧ (200 : Nat) - p' < (200 : Nat) - p)) ∧ (bitAt m n p = false → inRange IntKind.i64 ((↑p : Int) + (1 : Int)) ∧ ∃ (p' : Nat), St.mk [AV.any, AV.any, AV.any, AV.any, AV.lit (Value.bool false), AV.slice ((0 : Nat) + (1 : Nat) + (1 : Nat)) (0 : Nat) (128 : Nat) false, AV.slice ((0 : Nat) + (1 : Nat) + (1 : Nat) + (1 : Nat)) (0 : Nat) (128 : Nat) false, AV.slice ((0 : Nat) + (1 : Nat) + (1 : Nat) + (1 : Nat) + (1 : Nat)) (0 : Nat) (128 : Nat) false, AV.int IntKind.i64 ((↑p : Int) + (1 : Int)), AV.any, AV.any, AV.any, AV.any, AV.any, AV.any, AV.any, AV.any, AV.any, AV.any, AV.any, AV.any, AV.any, AV.any, AV.any, AV.any, AV.any, AV.any, AV.any, AV.any, AV.any, AV.any, AV.any, AV.any, AV.any, AV.any, AV.any] [none, none, some (Blk.mk true (4 : TypeId) (1 : Nat) true (bitsOf v w)), some (Blk.mk true (4 : TypeId) (1 : Nat) true (bitsOf m n)), some (Blk.mk true (4 : TypeId) (1 : Nat) true (bitsOf a b))] = wmSt v w m n a b p' ∧ wmI v w m n a b p' ∧ (200 : Nat) - p' < (200 : Nat) - p)) ∧ (Decidable.decide ((↑p : Int) < (128 : Int)) = false → AV.bool true = r)) := by kernel_rfl

theorem rwmatchCs_ok : ∀ e ∈ rwmatchCs, SpecOK Try.prog e.1 e.2 := by
  intro e he
  simp only [rwmatchCs, List.mem_cons, List.not_mem_nil, or_false] at he
  rcases he with rfl
  · exact bits_ok

theorem rwmatch_ok : SpecOK Try.prog 45 (genSpec [none, none] wmatchF) := by
  refine genSpec_ok (run_ok (l := rwmatchCs) rwmatchCs_ok mixed noNG) fun l R hF => ?_
  unfold wmatchF at hF
  split at hF
  · rename_i v w m n a b
    refine ⟨_, hF, rfl, (wmH v w m n a b), ?_⟩
    show run rwmatchCs Try.prog _ [.agg [.w64 v, .w64 w, .w64 m, .w64 n], .agg [.w64 a, .w64 b]] [] _ _
    rw [rwmatch_run]
    refine ⟨⟨rfl, by decide, fun i hi => absurd hi (by omega)⟩, ?_⟩
    rintro k ⟨h1, h2⟩
    refine ⟨fun hlt => ?_, fun hge => ?_⟩
    · have hk : k < 128 := by simp only [decide_eq_true_eq] at hlt; omega
      have nx : (bitAt m n k = true → bitAt v w k = bitAt a b k) → _ := fun h => (⟨inR (by omega) (by omega), k + 1, rfl, ⟨by omega, up h2 h⟩, by omega⟩ : inRange .i64 ((k : Int) + 1) ∧ ∃ p', wmSt v w m n a b (k + 1) = wmSt v w m n a b p' ∧ wmI v w m n a b p' ∧ 200 - p' < 200 - k)
      refine ⟨by omega, read_bits (by omega) (by omega) rfl, fun hm => ⟨by omega, read_bits (by omega) (by omega) rfl, by omega, read_bits (by omega) (by omega) rfl, fun hne => ?_, fun he => nx fun _ => by simpa using he⟩, fun hm => nx fun h => by rw [h] at hm; cases hm⟩
      rw [notT wmB_iff fun h => by have := h k hk hm; simp [this] at hne]
    · have hk : k = 128 := by simp only [decide_eq_false_iff_not] at hge; omega
      subst hk
      rw [wmB_iff.2 h2]
  · exact hF.elim


end Go.Proofs.Ythfgocpejlhanaa.L1
end

section
/-
  Layer 4: contracts of the program's and the document's Some.
-/
namespace Go.Proofs.Ythfgocpejlhanaa.L1
open Go.Sx Go.Sx.M

/-- What is kept while the bits are gone through: the number of the bit, what is left of the number, the address. -/
structure SomeP where
  k : Int
  l : BitVec 64
  a : BitVec 64
  b : BitVec 64

def wsSt (v w m n : BitVec 64) (p : SomeP) : St :=
  ⟨[.any, .any, .ptr 0 0 0 true, .any, .ptr 1 0 0 true, .ptr 2 0 0 true, .w64 p.l, .int .i64 p.k, .any, .any, .any, .any, .any, .any, .any, .any, .any, .any, .any, .any, .any, .any, .any, .any, .any, .any, .any, .any, .any, .any, .any, .any, .any, .any, .any],
   [some ⟨true, 26, 4, true, [.agg [.w64 v, .w64 w, .w64 m, .w64 n]]⟩, some ⟨true, 24, 2, true, [.agg [.lit (.int .u64 0), .lit (.int .u64 0)]]⟩, some ⟨true, 24, 2, true, [.agg [.w64 p.a, .w64 p.b]]⟩]⟩
def wsM0 : Modes := ⟨[0, 0, 1, 0, 1, 1, 1, 2, 0, 0, 0, 0, 0, 0, 0, 0, 0, 0, 0, 0, 0, 0, 0, 0, 0, 0, 0, 0, 0, 0, 0, 0, 0, 0, 0], [], [], [], []⟩
def wsM : Modes := ⟨[0, 0, 1, 0, 1, 1, 1, 1, 0, 0, 0, 0, 0, 0, 0, 0, 0, 0, 0, 0, 0, 0, 0, 0, 0, 0, 0, 0, 0, 0, 0, 0, 0, 0, 0], [], [], [], []⟩
def wsI (v w m n X : BitVec 64) (p : SomeP) : Prop := -1 ≤ p.k ∧ p.k ≤ 127 ∧ (0 ≤ p.k → p.l.toNat = X.toNat / 2 ^ fr m n p.k.toNat) ∧
  ∀ i : Nat, i < 128 → bitAt p.a p.b i = if (i : Int) ≤ p.k then (bitAt v w i && bitAt m n i) else smB v w m n X i
def wsH (v w m n X : BitVec 64) : List Hint := [.linv _ ⟨127, X, v &&& m, w &&& n⟩ (wsSt v w m n) (wsI v w m n X) (fun p => (p.k + 1).toNat) wsM0 wsM wsM (fun _ => []) fun _ =>
  [.fork [.fork [.fork [.nw] [.nw]] []] []]]

theorem bitAt_putW (a b : BitVec 64) (k : Int) (c : Bool) {i : Nat} (hi : i < 128) : bitAt (put a k c) (put b (k - 64) c) i = if (i : Int) = k then c else bitAt a b i := by
  unfold bitAt
  split
  · rw [put_get (by omega)]
  · rw [put_get (by omega)]
    by_cases h : (i : Int) = k
    · rw [if_pos h, if_pos (by omega)]
    · rw [if_neg h, if_neg (by omega)]

theorem bitZ_in {a b : BitVec 64} {k : Int} (h0 : 0 ≤ k) (h1 : k < 128) : bitZ a b k = bitAt a b k.toNat := by
  unfold bitZ
  rw [decide_eq_true ⟨h0, h1⟩, Bool.true_and]

theorem fr_down {m n : BitVec 64} {k : Int} (h0 : 0 ≤ k - 1) (h1 : k ≤ 127) : fr m n (k - 1).toNat = fr m n k.toNat + (if bitAt m n k.toNat then 0 else 1) := by
  rw [fr_step (k := (k - 1).toNat) (by omega), show (k - 1).toNat + 1 = k.toNat from by omega]

def wsomeF : List Arg → (Res → Prop) → Prop
  | [.v (.agg [.w64 v, .w64 w, .w64 m, .w64 n]), .v (.int .i64 x)], R => R (.v (.agg [.w64 (smW v w m n (BitVec.ofInt 64 x) 0), .w64 (smW v w m n (BitVec.ofInt 64 x) 64)]))
  | _, _ => False

noncomputable def wsomeCs : List (FuncId × Sx.Spec) := [(29, genSpec [none, none] bitF),
  (41, genSpec [none, none, none] withF)]

theorem wsome_run (v w m n : BitVec 64) (x : Int) (r : AV) : run wsomeCs Try.prog 28 [.agg [.w64 v, .w64 w, .w64 m, .w64 n], .int .i64 x] [] (wsH v w m n (BitVec.ofInt 64 x)) (yields (.v r)) =
    ((St.mk [AV.any, AV.any, AV.ptr (0 : Nat) (0 : Nat) (0 : Nat) true, AV.any, AV.ptr ((0 : Nat) + (1 : Nat)) (0 : Nat) (0 : Nat) true, AV.ptr ((0 : Nat) + (1 : Nat) + (1 : Nat)) (0 : Nat) (0 : Nat) true, AV.w64 (BitVec.ofInt (64 : Nat) x), AV.int IntKind.i64 (127 : Int), AV.any, AV.any, AV.any, AV.any, AV.any, AV.any, AV.any, AV.any, AV.any, AV.any, AV.any, AV.any, AV.any, AV.any, AV.any, AV.any, AV.any, AV.any, AV.any, AV.any, AV.any, AV.any, AV.any, AV.any, AV.any, AV.any, AV.any] [some (Blk.mk true (26 : Nat) (4 : Nat) true [AV.agg [AV.w64 v, AV.w64 w, AV.w64 m, AV.w64 n]]), some (Blk.mk true (24 : Nat) (2 : Nat) true [AV.agg [AV.lit (Value.int IntKind.u64 (0 : Int)), AV.lit (Value.int IntKind.u64 (0 : Int))]]), some (Blk.mk true (nat_lit 24) (2 : Nat) true [AV.agg [AV.w64 (v &&& m), AV.w64 (w &&& n)]])] = wsSt v w m n (SomeP.mk (127 : Int) (BitVec.ofInt (64 : Nat) x) (v &&& m) (w &&& n)) ∧ wsI v w m n (BitVec.ofInt (64 : Nat) x) (SomeP.mk (127 : Int) (BitVec.ofInt (64 : Nat) x) (v &&& m) (w &&& n))) ∧ ∀ (p : SomeP), wsI v w m n (BitVec.ofInt (64 : Nat) x) p → (Decidable.decide (p.1 ≥ (0 : Int)) = true → ((p.2 != BitVec.ofInt (64 : Nat) (0 : Int)) = true → ((!bitZ m n p.1) = true → inRange IntKind.i64 (p.1 - (1 : Int)) ∧ ∃ (p' : SomeP), St.mk [AV.any, AV.any, AV.ptr (0 : Nat) (0 : Nat) (0 : Nat) true, AV.any, AV.ptr ((0 : Nat) + (1 : Nat)) (0 : Nat) (0 : Nat) true, AV.ptr ((0 : Nat) + (1 : Nat) + (1 : Nat)) (0 : Nat) (0 : Nat) true, AV.w64 (p.2 >>> Int.toNat (1 : Int)), AV.int IntKind.i64 (p.1 - (1 : Int)), AV.any, AV.any, AV.any, AV.any, AV.any, AV.any, AV.any, AV.any, AV.any, AV.any, AV.any, AV.any, AV.any, AV.any, AV.any, AV.any, AV.any, AV.any, AV.any, AV.any, AV.any, AV.any, AV.any, AV.any, AV.any, AV.any, AV.any] [some (Blk.mk true (26 : TypeId) (4 : Nat) true [AV.agg [AV.w64 v, AV.w64 w, AV.w64 m, AV.w64 n]]), some (Blk.mk true (24 : TypeId) (2 : Nat) true [AV.agg [AV.lit (Value.int IntKind.u64 (0 : Int)), AV.lit (Value.int IntKind.u64 (0 : Int))]]), some (Blk.mk true (nat_lit 24) (2 : Nat) true [AV.agg [AV.w64 (put p.3 p.1 (p.2 &&& BitVec.ofInt (64 : Nat) (1 : Int) == BitVec.ofInt (64 : Nat) (1 : Int))), AV.w64 (put p.4 (p.1 - (64 : Int)) (p.2 &&& BitVec.ofInt (64 : Nat) (1 : Int) == BitVec.ofInt (64 : Nat) (1 : Int)))]])] = wsSt v w m n p' ∧ wsI v w m n (BitVec.ofInt (64 : Nat) x) p' ∧ Int.toNat (p'.1 + (1 : Int)) < Int.toNat (p.1 + (1 : Int))) ∧ ((!bitZ m n p.1) = false → inRange IntKind.i64 (p.1 - (1 : Int)) ∧ ∃ (p' : SomeP), St.mk [AV.any, AV.any, AV.ptr (0 : Nat) (0 : Nat) (0 : Nat) true, AV.any, AV.ptr ((0 : Nat) + (1 : Nat)) (0 : Nat) (0 : Nat) true, AV.ptr ((0 : Nat) + (1 : Nat) + (1 : Nat)) (0 : Nat) (0 : Nat) true, AV.w64 p.2, AV.int IntKind.i64 (p.1 - (1 : Int)), AV.any, AV.any, AV.any, AV.any, AV.any, AV.any, AV.any, AV.any, AV.any, AV.any, AV.any, AV.any, AV.any, AV.any, AV.any, AV.any, AV.any, AV.any, AV.any, AV.any, AV.any, AV.any, AV.any, AV.any, AV.any, AV.any, AV.any] [some (Blk.mk true (26 : TypeId) (4 : Nat) true [AV.agg [AV.w64 v, AV.w64 w, AV.w64 m, AV.w64 n]]), some (Blk.mk true (24 : TypeId) (2 : Nat) true [AV.agg [AV.lit (Value.int IntKind.u64 (0 : Int)), AV.lit (Value.int IntKind.u64 (0 : Int))]]), some (Blk.mk true (24 : TypeId) (2 : Nat) true [AV.agg [AV.w64 p.3, AV.w64 p.4]])] = wsSt v w m n p' ∧ wsI v w m n (BitVec.ofInt (64 : Nat) x) p' ∧ Int.toNat (p'.1 + (1 : Int)) < Int.toNat (p.1 + (1 : Int)))) ∧ ((p.2 != BitVec.ofInt (64 : Nat) (0 : Int)) = false → AV.agg [AV.w64 p.3, AV.w64 p.4] = r)) ∧ (Decidable.decide (p.1 ≥ (0 : Int)) = false → AV.agg [AV.w64 p.3, AV.w64 p.4] = r)) := by kernel_rfl

theorem wsomeCs_ok : ∀ e ∈ wsomeCs, SpecOK Try.prog e.1 e.2 := by
  intro e he
  simp only [wsomeCs, List.mem_cons, List.not_mem_nil, or_false] at he
  rcases he with rfl | rfl
  · exact bit_ok
  · exact with_ok

theorem wsome_ok : SpecOK Try.prog 28 (genSpec [none, none] wsomeF) := by
  refine genSpec_ok (run_ok (l := wsomeCs) wsomeCs_ok mixed noNG) fun l R hF => ?_
  unfold wsomeF at hF
  split at hF
  · rename_i v w m n x
    refine ⟨_, hF, rfl, (wsH v w m n (BitVec.ofInt 64 x)), ?_⟩
    show run wsomeCs Try.prog _ [.agg [.w64 v, .w64 w, .w64 m, .w64 n], .int .i64 x] [] _ _
    rw [wsome_run]
    generalize BitVec.ofInt 64 x = X
    refine ⟨⟨rfl, by simp, by simp, fun _ => ?_, fun i hi => ?_⟩, ?_⟩
    · show X.toNat = X.toNat / 2 ^ fr m n 127
      rw [fr_last]; simp
    · rw [if_pos (by simp only; omega), bitAt_and]
    rintro ⟨k, l, a, b⟩ ⟨h1, h2, h3, h4⟩
    simp only at h1 h2 h3 h4
    refine ⟨fun hk => ⟨fun hl => ⟨fun hb => ?_, fun hb => ?_⟩, fun hl => ?_⟩, fun hk => ?_⟩
    · have hk : 0 ≤ k := by simpa using hk
      have hm : bitAt m n k.toNat = false := by rw [← bitZ_in hk (by omega)]; simpa using hb
      obtain ⟨e1, _, e3, _⟩ := half_bit l X.toNat _ (h3 hk)
      refine ⟨inR (by simp only; omega) (by simp only; omega), ⟨k - 1, l >>> Int.toNat 1, put a k (l &&& BitVec.ofInt 64 1 == BitVec.ofInt 64 1), put b (k - 64) (l &&& BitVec.ofInt 64 1 == BitVec.ofInt 64 1)⟩, rfl, ⟨by simp only; omega, by simp only; omega, fun h => ?_, fun i hi => ?_⟩, by simp only; omega⟩
      · simp only at h ⊢
        rw [fr_down h h2, hm]
        exact e3
      · simp only
        rw [bitAt_putW _ _ _ _ hi, e1, h4 i hi]
        by_cases hik : (i : Int) = k
        · have e : k.toNat = i := by omega
          rw [e] at hm
          rw [if_pos hik, if_neg (by omega), e]
          unfold smB
          rw [hm]; rfl
        · rw [if_neg hik]
          by_cases hle : (i : Int) ≤ k
          · rw [if_pos hle, if_pos (by omega)]
          · rw [if_neg hle, if_neg (by omega)]
    · have hk : 0 ≤ k := by simpa using hk
      have hm : bitAt m n k.toNat = true := by rw [← bitZ_in hk (by omega)]; simpa using hb
      refine ⟨inR (by simp only; omega) (by simp only; omega), ⟨k - 1, l, a, b⟩, rfl, ⟨by simp only; omega, by simp only; omega, fun h => ?_, fun i hi => ?_⟩, by simp only; omega⟩
      · simp only at h ⊢
        rw [fr_down h h2, hm]
        exact h3 hk
      · simp only
        rw [h4 i hi]
        by_cases hik : (i : Int) = k
        · have e : k.toNat = i := by omega
          rw [e] at hm
          rw [if_pos (by omega), if_neg (by omega)]
          unfold smB
          rw [hm]; simp
        · by_cases hle : (i : Int) ≤ k
          · rw [if_pos hle, if_pos (by omega)]
          · rw [if_neg hle, if_neg (by omega)]
    · have hk : 0 ≤ k := by simpa using hk
      have hl : l.toNat = 0 := by
        have : l = BitVec.ofInt 64 0 := by simpa using hl
        rw [this]; rfl
      have h0 := h3 hk
      rw [hl] at h0
      obtain ⟨rfl, rfl⟩ := bitAt_eq (a := a) (b := b) (c := smW v w m n X 0) (d := smW v w m n X 64) fun i hi => by
        rw [h4 i hi, bitAt_sm _ _ _ _ _ hi]
        by_cases hle : (i : Int) ≤ k
        · rw [if_pos hle, smB_end (k := k.toNat) (by omega) h0.symm]
        · rw [if_neg hle]
      rfl
    · have hk : ¬ 0 ≤ k := by simpa using hk
      obtain ⟨rfl, rfl⟩ := bitAt_eq (a := a) (b := b) (c := smW v w m n X 0) (d := smW v w m n X 64) fun i hi => by
        rw [h4 i hi, bitAt_sm _ _ _ _ _ hi, if_neg (by omega)]
      rfl
  · exact hF.elim


end Go.Proofs.Ythfgocpejlhanaa.L1
end

