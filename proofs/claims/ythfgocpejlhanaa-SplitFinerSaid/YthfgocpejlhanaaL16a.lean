/-
  Texts in one: L16C L16A L16D.
-/
import Derived.Test.YthfgocpejlhanaaL5a
import Derived.Test.YthfgocpejlhanaaMa
import Derived.Test.YthfgocpejlhanaaL2a
import Derived.Test.YthfgocpejlhanaaL4a

section
/-
  Layer 16: what the contracts of the program's calls say.
-/
namespace Go.Proofs.Ythfgocpejlhanaa.L1
open Go.Sx Go.Sx.M

def inA (x : Int) : AV := .int .i64 x
def inR16 (l : List Int) : List AV := l.map inA

def gright16F : List Arg → (Res → Prop) → Prop
  | [.v (.int .i64 k)], R => R (.v (.bool (rtI k)))
  | _, _ => False

def gmany16F : List Arg → (Res → Prop) → Prop
  | [.v (.int .i64 k)], R => R (.v (.int .i64 (mnI k)))
  | _, _ => False

def gof16F : List Arg → (Res → Prop) → Prop
  | [.v (.int .i64 k), .v (.agg [.w64 a, .w64 _])], R => R (.v (.int .i64 (ofI k a)))
  | _, _ => False

def gbanks16F : List Arg → (Res → Prop) → Prop
  | [.v (.int .i64 k), .v (.agg [.w64 v, .w64 _, .w64 m, .w64 _])], R => R (.vrow 3 1 ((bkI k v m).map inA))
  | _, _ => False

def gpart16F : List Arg → (Res → Prop) → Prop
  | [.v (.int .i64 k), .v (.int .i64 j), .row r_l], R => r_l = (deE r_l).map enE ∧ (deE r_l).length ≤ 1000000 ∧ R (.vrow 48 6 ((ptI k j (deE r_l)).map enE))
  | _, _ => False

def gcopies16F : List Arg → (Res → Prop) → Prop
  | [.v (.int .i64 k), .row r_l], R => r_l = (deE r_l).map enE ∧ (deE r_l).length ≤ 1000000 ∧ R (.v (.int .i64 (cpI k (deE r_l))))
  | _, _ => False

end Go.Proofs.Ythfgocpejlhanaa.L1
end

section
/-
  Layer 16: contracts of the document's Of, Banks, Part.
-/
namespace Go.Proofs.Ythfgocpejlhanaa.L1
open Go.Sx Go.Sx.M

def rpart16F : List Arg → (Res → Prop) → Prop
  | [.v (.int .i64 k), .v (.int .i64 j), .row r_l], R => r_l = (deE r_l).map enE ∧ (deE r_l).length ≤ 1000000 ∧ R (.vrow 45 6 ((ptI k j (deE r_l)).map enE))
  | _, _ => False

def bx16 (x y : BitVec 64) : Option Blk := some ⟨true, 4, 1, true, bitsOf x y⟩

def of16St (k : Int) (a b : BitVec 64) (i : Nat) : St :=
  ⟨[.int .i64 k, .any, .any, .any, .any, .slice 0 0 128 false, .int .i64 (ofN a i), .int .i64 i, .any, .any, .any, .any, .any, .any, .any, .any, .any, .any, .any, .any, .any, .any, .any, .any, .any, .any, .any, .any, .any, .any], [bx16 a b]⟩
def of16M0 : Modes := ⟨[1, 0, 0, 0, 0, 1, 2, 2, 0, 0, 0, 0, 0, 0, 0, 0, 0, 0, 0, 0, 0, 0, 0, 0, 0, 0, 0, 0, 0, 0], [], [], [], []⟩
def of16M : Modes := ⟨[1, 0, 0, 0, 0, 1, 1, 1, 0, 0, 0, 0, 0, 0, 0, 0, 0, 0, 0, 0, 0, 0, 0, 0, 0, 0, 0, 0, 0, 0], [], [], [], []⟩
def of16M' : Modes := ⟨[0, 0, 0, 0, 0, 0, 1, 0, 0, 0, 0, 0, 0, 0, 0, 0, 0, 0, 0, 0, 0, 0, 0, 0, 0, 0, 0, 0, 0, 0], [], [], [], []⟩
def of16H (k : Int) (a b : BitVec 64) : List Hint := [.fork [] [.fork [] [.linv _ 0 (of16St k a b) (fun i => i ≤ k.toNat) (fun i => k.toNat + 1 - i) of16M0 of16M of16M' (fun _ => []) fun i =>
  [.fork [.nw, .dy, .cell (.bool (bitAt a b i)), .fork [.nw, .nw] [.nw]] []]]]]

/-- A row of banks. -/
def bk16R (k : Int) (v m : BitVec 64) (n : Nat) : List AV := ((bkU k.toNat v m n).map Int.ofNat).map inA
def bn16St (k : Int) (v w m n : BitVec 64) (i : Nat) : St :=
  ⟨[.int .i64 k, .any, .any, .ptr 0 0 0 true, .any, .lit (.slice none 0 0), .int .i64 (pwN i), .int .i64 i, .any, .any, .any, .any, .any, .any, .any, .any, .any, .any, .any, .any, .any, .any, .any, .any, .any, .any, .any, .any, .any, .any, .any, .any, .any, .any, .any, .any, .any, .any, .any, .any, .any, .any, .any, .any, .any, .any, .any, .any, .any, .any, .any, .any, .any, .any, .any, .any, .any, .any, .any, .any, .any, .any, .any, .any, .any, .any, .any], [some ⟨true, 31, 4, true, [.agg [.w64 v, .w64 w, .w64 m, .w64 n]]⟩]⟩
def bn16M0 : Modes := ⟨[1, 0, 0, 1, 0, 1, 2, 2, 0, 0, 0, 0, 0, 0, 0, 0, 0, 0, 0, 0, 0, 0, 0, 0, 0, 0, 0, 0, 0, 0, 0, 0, 0, 0, 0, 0, 0, 0, 0, 0, 0, 0, 0, 0, 0, 0, 0, 0, 0, 0, 0, 0, 0, 0, 0, 0, 0, 0, 0, 0, 0, 0, 0, 0, 0, 0, 0], [], [], [], []⟩
def bn16M : Modes := ⟨[1, 0, 0, 1, 0, 1, 1, 1, 0, 0, 0, 0, 0, 0, 0, 0, 0, 0, 0, 0, 0, 0, 0, 0, 0, 0, 0, 0, 0, 0, 0, 0, 0, 0, 0, 0, 0, 0, 0, 0, 0, 0, 0, 0, 0, 0, 0, 0, 0, 0, 0, 0, 0, 0, 0, 0, 0, 0, 0, 0, 0, 0, 0, 0, 0, 0, 0], [], [], [], []⟩
/-- The bank that is looked at. -/
def ba16St (k : Int) (i : Nat) (v w m n : BitVec 64) (j : Nat) : St :=
  ⟨[.int .i64 k, .any, .any, .any, .any, .vsl 2 0 (bk16R k v m j).length, .int .i64 (pwN i), .any, .slice 0 0 128 false, .slice 1 0 128 false, .int .i64 j, .any, .any, .any, .any, .any, .any, .any, .any, .any, .any, .any, .any, .any, .any, .any, .any, .any, .any, .any, .any, .any, .any, .any, .any, .any, .any, .any, .any, .any, .any, .any, .any, .any, .any, .any, .any, .any, .any, .any, .any, .any, .any, .any, .any, .any, .any, .any, .any, .any, .any, .any, .any, .any, .any, .any, .any], [bx16 v w, bx16 m n, some ⟨true, 3, 1, true, bk16R k v m j⟩]⟩
def ba16M0 : Modes := ⟨[1, 0, 0, 0, 0, 1, 1, 0, 1, 1, 2, 0, 0, 0, 0, 0, 0, 0, 0, 0, 0, 0, 0, 0, 0, 0, 0, 0, 0, 0, 0, 0, 0, 0, 0, 0, 0, 0, 0, 0, 0, 0, 0, 0, 0, 0, 0, 0, 0, 0, 0, 0, 0, 0, 0, 0, 0, 0, 0, 0, 0, 0, 0, 0, 0, 0, 0], [], [], [], [(5, 3, 1)]⟩
def ba16M : Modes := ⟨[1, 0, 0, 0, 0, 1, 1, 0, 1, 1, 1, 0, 0, 0, 0, 0, 0, 0, 0, 0, 0, 0, 0, 0, 0, 0, 0, 0, 0, 0, 0, 0, 0, 0, 0, 0, 0, 0, 0, 0, 0, 0, 0, 0, 0, 0, 0, 0, 0, 0, 0, 0, 0, 0, 0, 0, 0, 0, 0, 0, 0, 0, 0, 0, 0, 0, 0], [], [1, 8, 9], [], []⟩
def ba16M' : Modes := ⟨[0, 0, 0, 0, 0, 1, 0, 0, 0, 0, 0, 0, 0, 0, 0, 0, 0, 0, 0, 0, 0, 0, 0, 0, 0, 0, 0, 0, 0, 0, 0, 0, 0, 0, 0, 0, 0, 0, 0, 0, 0, 0, 0, 0, 0, 0, 0, 0, 0, 0, 0, 0, 0, 0, 0, 0, 0, 0, 0, 0, 0, 0, 0, 0, 0, 0, 0], [], [], [], []⟩
/-- The bit that is looked at. -/
def bb16St (k : Int) (i : Nat) (v w m n : BitVec 64) (j t : Nat) : St :=
  ⟨[.int .i64 k, .any, .any, .any, .any, .vsl 2 0 (bk16R k v m j).length, .int .i64 (pwN i), .any, .slice 0 0 128 false, .slice 1 0 128 false, .int .i64 j, .bool (okT k.toNat v m j t), .int .i64 (qN j k.toNat t), .int .i64 ((t : Int) - 1), .any, .any, .any, .any, .any, .any, .any, .any, .any, .any, .any, .any, .any, .any, .any, .any, .any, .any, .any, .any, .any, .any, .any, .any, .any, .any, .any, .any, .any, .any, .any, .any, .any, .any, .any, .any, .any, .any, .any, .any, .any, .any, .any, .any, .any, .any, .any, .any, .any, .any, .any, .any, .any], [bx16 v w, bx16 m n, some ⟨true, 3, 1, true, bk16R k v m j⟩]⟩
def bb16M : Modes := ⟨[1, 0, 0, 0, 0, 1, 1, 0, 1, 1, 1, 2, 1, 1, 0, 0, 0, 0, 0, 0, 0, 0, 0, 0, 0, 0, 0, 0, 0, 0, 0, 0, 0, 0, 0, 0, 0, 0, 0, 0, 0, 0, 0, 0, 0, 0, 0, 0, 0, 0, 0, 0, 0, 0, 0, 0, 0, 0, 0, 0, 0, 0, 0, 0, 0, 0, 0], [], [1, 8, 9], [], []⟩
def bb16H (v w m n : BitVec 64) (t : Nat) : List Hint :=
  [.fork [.dy, .cell (.bool (bitAt m n (t - 1))), .fork [.dy, .cell (.bool (bitAt v w (t - 1))), .fork [.nw, .nw] [.nw, .nw]] [.nw, .nw]] []]
def bn16H (k : Int) (v w m n : BitVec 64) : List Hint := [.fork [] [.fork [] [.linv _ 0 (bn16St k v w m n) (fun i => i ≤ k.toNat) (fun i => k.toNat + 1 - i) bn16M0 bn16M bn16M
  (fun i => [.linv _ 0 (ba16St k i v w m n) (fun j => j ≤ pwN i) (fun j => pwN i + 1 - j) ba16M0 ba16M ba16M' (fun _ => []) fun j =>
    [.fork [.nw, .linv _ k.toNat (bb16St k i v w m n j) (fun t => t ≤ k.toNat) (fun t => t) bb16M bb16M bb16M (fun _ => [.fork [.rows (bk16R k v m (j + 1)), .nw] [.nw]]) (bb16H v w m n)] []]])
  fun _ => [.fork [.nw, .nw] []]]]]

/-- A part, as far as entry i and its bank q. -/
def pt16R (k j : Int) (l : List En) (i q : Nat) : List AV := (ptI k j (l.take i) ++ ptQ k j (at' l i) q).map enE
def bq16R (k : Int) (x : En) : List AV := (bkI k x.v x.m).map inA
def pt16St (k j : Int) (l : List En) (i : Nat) : St :=
  ⟨[.int .i64 k, .int .i64 j, .vsl 0 0 (l.map enE).length, .any, .any, .any, .any, .vsl 1 0 (pt16R k j l i 0).length, .int .i64 i, .any, .any, .any, .any, .any, .any, .any, .any, .any, .any, .any, .any, .any, .any, .any, .any, .any, .any, .any, .any, .any, .any, .any, .any, .any, .any, .any, .any, .any, .any, .any, .any, .any, .any, .any], [some ⟨false, 45, 6, true, l.map enE⟩, some ⟨true, 45, 6, true, pt16R k j l i 0⟩]⟩
def pt16M0 : Modes := ⟨[1, 1, 1, 0, 0, 0, 0, 1, 2, 0, 0, 0, 0, 0, 0, 0, 0, 0, 0, 0, 0, 0, 0, 0, 0, 0, 0, 0, 0, 0, 0, 0, 0, 0, 0, 0, 0, 0, 0, 0, 0, 0, 0, 0], [], [], [], [(7, 45, 6)]⟩
def pt16M : Modes := ⟨[1, 1, 1, 0, 0, 0, 0, 1, 1, 0, 0, 0, 0, 0, 0, 0, 0, 0, 0, 0, 0, 0, 0, 0, 0, 0, 0, 0, 0, 0, 0, 0, 0, 0, 0, 0, 0, 0, 0, 0, 0, 0, 0, 0], [], [], [], []⟩
def pt16M' : Modes := ⟨[0, 0, 0, 0, 0, 0, 0, 1, 0, 0, 0, 0, 0, 0, 0, 0, 0, 0, 0, 0, 0, 0, 0, 0, 0, 0, 0, 0, 0, 0, 0, 0, 0, 0, 0, 0, 0, 0, 0, 0, 0, 0, 0, 0], [], [], [], []⟩
def pq16St (k j : Int) (l : List En) (i q : Nat) : St :=
  ⟨[.int .i64 k, .int .i64 j, .vsl 0 0 (l.map enE).length, .any, .any, .any, .any, .vsl 1 0 (pt16R k j l i q).length, .int .i64 i, .vsl 2 0 (bq16R k (at' l i)).length, .int .i64 q, .any, .any, .any, .any, .any, .any, .any, .any, .any, .any, .any, .any, .any, .any, .any, .any, .any, .any, .any, .any, .any, .any, .any, .any, .any, .any, .any, .any, .any, .any, .any, .any, .any], [some ⟨false, 45, 6, true, l.map enE⟩, some ⟨true, 45, 6, true, pt16R k j l i q⟩, some ⟨true, 3, 1, true, bq16R k (at' l i)⟩]⟩
def pq16M0 : Modes := ⟨[1, 1, 1, 0, 0, 0, 0, 1, 1, 1, 2, 0, 0, 0, 0, 0, 0, 0, 0, 0, 0, 0, 0, 0, 0, 0, 0, 0, 0, 0, 0, 0, 0, 0, 0, 0, 0, 0, 0, 0, 0, 0, 0, 0], [], [], [], []⟩
def pq16M : Modes := ⟨[1, 1, 1, 0, 0, 0, 0, 1, 1, 1, 1, 0, 0, 0, 0, 0, 0, 0, 0, 0, 0, 0, 0, 0, 0, 0, 0, 0, 0, 0, 0, 0, 0, 0, 0, 0, 0, 0, 0, 0, 0, 0, 0, 0], [], [], [], []⟩
def pq16M' : Modes := ⟨[1, 1, 1, 0, 0, 0, 0, 1, 1, 0, 0, 0, 0, 0, 0, 0, 0, 0, 0, 0, 0, 0, 0, 0, 0, 0, 0, 0, 0, 0, 0, 0, 0, 0, 0, 0, 0, 0, 0, 0, 0, 0, 0, 0], [], [], [], []⟩
def pt16H (k j : Int) (l : List En) : List Hint := [.linv _ 0 (pt16St k j l) (fun i => i ≤ l.length) (fun i => l.length + 1 - i) pt16M0 pt16M pt16M' (fun _ => []) fun i =>
  [.fork [.dy, .cell (.agg [.w64 (at' l i).v, .w64 (at' l i).w, .w64 (at' l i).m, .w64 (at' l i).n]), .nm (bq16R k (at' l i)),
    .linv _ 0 (pq16St k j l i) (fun q => q ≤ (bq16R k (at' l i)).length) (fun q => (bq16R k (at' l i)).length + 1 - q) pq16M0 pq16M pq16M' (fun _ => [.nw]) fun q =>
      [.fork [.dy, .cell (inA ((bkI k (at' l i).v (at' l i).m).getD q 0)), .fork [.dy, .cell (enE (at' l i)), .rows (pt16R k j l i (q + 1)), .nw] [.nw]] []]] []]]

theorem int_whole (x : Int) : partOf Try.prog 3 (inA x).cells 0 = some (inA x) := by kernel_rfl

theorem notTT2 {b : Bool} {p : Prop} (h : b = true ↔ p) (hp : ¬ p) : b = false := Bool.eq_false_iff.2 fun hb => hp (h.1 hb)

noncomputable def rof16Cs : List (FuncId × Sx.Spec) := [(32, genSpec [none] bitsF)]

theorem rof16_run (k : Int) (a b : BitVec 64) (r : AV) : run rof16Cs Try.prog 15 [.int .i64 k, .agg [.w64 a, .w64 b]] [] (of16H k a b) (yields (.v r)) =
    ((Decidable.decide (k < (0 : Int)) = true → AV.int IntKind.i64 (0 : Int) = r) ∧ (Decidable.decide (k < (0 : Int)) = false → (Decidable.decide (k > (3 : Int)) = true → AV.int IntKind.i64 (0 : Int) = r) ∧ (Decidable.decide (k > (3 : Int)) = false → (St.mk [AV.int IntKind.i64 k, AV.any, AV.any, AV.any, AV.any, AV.slice (0 : Nat) (0 : Nat) (List.length (bitsOf a b)) false, AV.int IntKind.i64 (0 : Int), AV.int IntKind.i64 (0 : Int), AV.any, AV.any, AV.any, AV.any, AV.any, AV.any, AV.any, AV.any, AV.any, AV.any, AV.any, AV.any, AV.any, AV.any, AV.any, AV.any, AV.any, AV.any, AV.any, AV.any, AV.any, AV.any] [some (Blk.mk true (4 : TypeId) (1 : Nat) true (bitsOf a b))] = of16St k a b (0 : Nat) ∧ Nat.le (0 : Nat) (Int.toNat k)) ∧ ∀ (p : Nat), Nat.le p (Int.toNat k) → (Decidable.decide ((↑p : Int) < k) = true → inRange IntKind.i64 ((↑(ofN a p) : Int) * (2 : Int)) ∧ ((0 : Int) ≤ (↑p : Int) ∧ (↑p : Int) < (↑(128 : Nat) : Int)) ∧ Blk.read Proofs.Try.prog (Blk.mk true (4 : TypeId) (1 : Nat) true (bitsOf a b)) (4 : Nat) ((0 : Nat) + Int.toNat (↑p : Int)) (0 : Nat) = some (AV.bool (bitAt a b p)) ∧ (bitAt a b p = true → inRange IntKind.i64 ((↑(ofN a p) : Int) * (2 : Int) + (1 : Int)) ∧ inRange IntKind.i64 ((↑p : Int) + (1 : Int)) ∧ ∃ (p' : Nat), St.mk [AV.int IntKind.i64 k, AV.any, AV.any, AV.any, AV.any, AV.slice (0 : Nat) (0 : Nat) (128 : Nat) false, AV.int IntKind.i64 ((↑(ofN a p) : Int) * (2 : Int) + (1 : Int)), AV.int IntKind.i64 ((↑p : Int) + (1 : Int)), AV.any, AV.any, AV.any, AV.any, AV.any, AV.any, AV.any, AV.any, AV.any, AV.any, AV.any, AV.any, AV.any, AV.any, AV.any, AV.any, AV.any, AV.any, AV.any, AV.any, AV.any, AV.any] [some (Blk.mk true (4 : TypeId) (1 : Nat) true (bitsOf a b))] = of16St k a b p' ∧ Nat.le p' (Int.toNat k) ∧ Int.toNat k + (1 : Nat) - p' < Int.toNat k + (1 : Nat) - p) ∧ (bitAt a b p = false → inRange IntKind.i64 ((↑p : Int) + (1 : Int)) ∧ ∃ (p' : Nat), St.mk [AV.int IntKind.i64 k, AV.any, AV.any, AV.any, AV.any, AV.slice (0 : Nat) (0 : Nat) (128 : Nat) false, AV.int IntKind.i64 ((↑(ofN a p) : Int) * (2 : Int)), AV.int IntKind.i64 ((↑p : Int) + (1 : Int)), AV.any, AV.any, AV.any, AV.any, AV.any, AV.any, AV.any, AV.any, AV.any, AV.any, AV.any, AV.any, AV.any, AV.any, AV.any, AV.any, AV.any, AV.any, AV.any, AV.any, AV.any, AV.any] [some (Blk.mk true (4 : TypeId) (1 : Nat) true (bitsOf a b))] = of16St k a b p' ∧ Nat.le p' (Int.toNat k) ∧ Int.toNat k + (1 : Nat) - p' < Int.toNat k + (1 : Nat) - p)) ∧ (Decidable.decide ((↑p : Int) < k) = false → AV.int IntKind.i64 (↑(ofN a p) : Int) = r)))) := by kernel_rfl

theorem rof16Cs_ok : ∀ e ∈ rof16Cs, SpecOK Try.prog e.1 e.2 := by
  intro e he
  simp only [rof16Cs, List.mem_cons, List.not_mem_nil, or_false] at he
  rcases he with rfl
  · exact bits_ok

theorem rof16_ok : SpecOK Try.prog 15 (genSpec [none, none] gof16F) := by
  refine genSpec_ok (run_ok (l := rof16Cs) rof16Cs_ok mixed noNG) fun l R hF => ?_
  unfold gof16F at hF
  split at hF
  · rename_i k a b
    refine ⟨_, hF, rfl, (of16H k a b), ?_⟩
    show run rof16Cs Try.prog _ [.int .i64 k, .agg [.w64 a, .w64 b]] [] _ _
    rw [rof16_run]
    have bad : rtI k = false → AV.int .i64 0 = AV.int .i64 (ofI k a) := fun h => by unfold ofI; rw [h]; rfl
    refine ⟨fun h => bad ?_, fun h => ⟨fun h3 => bad ?_, fun h3 => ?_⟩⟩
    · have h := of_decide_eq_true h
      exact notTT2 rtI_iff (by omega)
    · have h3 := of_decide_eq_true h3
      exact notTT2 rtI_iff (by omega)
    · have h := of_decide_eq_false h
      have h3 := of_decide_eq_false h3
      obtain ⟨kk, rfl⟩ := Int.eq_ofNat_of_zero_le (show 0 ≤ k by omega)
      have hk : kk ≤ 3 := by omega
      have hr : rtI (kk : Int) = true := rtI_iff.2 (by omega)
      refine ⟨⟨rfl, Nat.zero_le _⟩, ?_⟩
      intro i (hi : i ≤ kk)
      have h8 := pow_le (show i ≤ 3 by omega)
      have hof := ofN_lt a i
      refine ⟨fun hlt => ?_, fun hge => ?_⟩
      · have hlt := of_decide_eq_true hlt
        have hik : i < kk := by omega
        refine ⟨inR (by omega) (by omega), ⟨by omega, by omega⟩, read_bits (by omega) (by omega) rfl, fun hb => ⟨inR (by omega) (by omega), inR (by omega) (by omega), i + 1, ?_, hik, ?_⟩, fun hb => ⟨inR (by omega) (by omega), i + 1, ?_, hik, ?_⟩⟩
        · have e : ((ofN a (i + 1) : Nat) : Int) = (ofN a i : Int) * 2 + 1 := by
            rw [bitAt_first (by omega)] at hb
            rw [ofN, hb]
            show ((2 * ofN a i + 1 : Nat) : Int) = _
            omega
          unfold of16St
          rw [e]
          rfl
        · show kk + 1 - (i + 1) < kk + 1 - i
          omega
        · have e : ((ofN a (i + 1) : Nat) : Int) = (ofN a i : Int) * 2 := by
            rw [bitAt_first (by omega)] at hb
            rw [ofN, hb]
            show ((2 * ofN a i + 0 : Nat) : Int) = _
            omega
          unfold of16St
          rw [e]
          rfl
        · show kk + 1 - (i + 1) < kk + 1 - i
          omega
      · have hge := of_decide_eq_false hge
        have e : i = kk := by omega
        subst e
        unfold ofI
        rw [if_pos hr, Int.toNat_natCast]
  · exact hF.elim


noncomputable def rbanks16Cs : List (FuncId × Sx.Spec) := [(32, genSpec [none] bitsF)]

theorem rbanks16_run (k : Int) (v w m n : BitVec 64) : run rbanks16Cs Try.prog 10 [.int .i64 k, .agg [.w64 v, .w64 w, .w64 m, .w64 n]] [] (bn16H k v w m n) (yields (.vrow 3 1 ((bkI k v m).map inA))) =
    ((Decidable.decide (k < (0 : Int)) = true → List.map inA (bkI k v m) = []) ∧ (Decidable.decide (k < (0 : Int)) = false → (Decidable.decide (k > (3 : Int)) = true → List.map inA (bkI k v m) = []) ∧ (Decidable.decide (k > (3 : Int)) = false → (St.mk [AV.int IntKind.i64 k, AV.any, AV.any, AV.ptr (0 : Nat) (0 : Nat) (0 : Nat) true, AV.any, AV.lit (Value.slice none (0 : Nat) (0 : Nat)), AV.int IntKind.i64 (1 : Int), AV.int IntKind.i64 (0 : Int), AV.any, AV.any, AV.any, AV.any, AV.any, AV.any, AV.any, AV.any, AV.any, AV.any, AV.any, AV.any, AV.any, AV.any, AV.any, AV.any, AV.any, AV.any, AV.any, AV.any, AV.any, AV.any, AV.any, AV.any, AV.any, AV.any, AV.any, AV.any, AV.any, AV.any, AV.any, AV.any, AV.any, AV.any, AV.any, AV.any, AV.any, AV.any, AV.any, AV.any, AV.any, AV.any, AV.any, AV.any, AV.any, AV.any, AV.any, AV.any, AV.any, AV.any, AV.any, AV.any, AV.any, AV.any, AV.any, AV.any, AV.any, AV.any, AV.any] [some (Blk.mk true (31 : Nat) (4 : Nat) true [AV.agg [AV.w64 v, AV.w64 w, AV.w64 m, AV.w64 n]])] = bn16St k v w m n (0 : Nat) ∧ Nat.le (0 : Nat) (Int.toNat k)) ∧ ∀ (p : Nat), Nat.le p (Int.toNat k) → (Decidable.decide ((↑p : Int) < k) = true → inRange IntKind.i64 ((↑(pwN p) : Int) * (2 : Int)) ∧ inRange IntKind.i64 ((↑p : Int) + (1 : Int)) ∧ ∃ (p' : Nat), St.mk [AV.int IntKind.i64 k, AV.any, AV.any, AV.ptr (0 : Nat) (0 : Nat) (0 : Nat) true, AV.any, AV.lit (Value.slice none (0 : Nat) (0 : Nat)), AV.int IntKind.i64 ((↑(pwN p) : Int) * (2 : Int)), AV.int IntKind.i64 ((↑p : Int) + (1 : Int)), AV.any, AV.any, AV.any, AV.any, AV.any, AV.any, AV.any, AV.any, AV.any, AV.any, AV.any, AV.any, AV.any, AV.any, AV.any, AV.any, AV.any, AV.any, AV.any, AV.any, AV.any, AV.any, AV.any, AV.any, AV.any, AV.any, AV.any, AV.any, AV.any, AV.any, AV.any, AV.any, AV.any, AV.any, AV.any, AV.any, AV.any, AV.any, AV.any, AV.any, AV.any, AV.any, AV.any, AV.any, AV.any, AV.any, AV.any, AV.any, AV.any, AV.any, AV.any, AV.any, AV.any, AV.any, AV.any, AV.any, AV.any, AV.any, AV.any] [some (Blk.mk true (31 : TypeId) (4 : Nat) true [AV.agg [AV.w64 v, AV.w64 w, AV.w64 m, AV.w64 n]])] = bn16St k v w m n p' ∧ Nat.le p' (Int.toNat k) ∧ Int.toNat k + (1 : Nat) - p' < Int.toNat k + (1 : Nat) - p) ∧ (Decidable.decide ((↑p : Int) < k) = false → (St.mk [AV.int IntKind.i64 k, AV.any, AV.any, AV.any, AV.any, AV.vsl (List.length [some (Blk.mk true (4 : TypeId) (1 : Nat) true (bitsOf v w)), some (Blk.mk true (4 : TypeId) (1 : Nat) true (bitsOf m n))]) (0 : Nat) (0 : Nat), AV.int IntKind.i64 (↑(pwN p) : Int), AV.any, AV.slice (0 : Nat) (0 : Nat) (List.length (bitsOf v w)) false, AV.slice ((0 : Nat) + (1 : Nat)) (0 : Nat) (List.length (bitsOf m n)) false, AV.int IntKind.i64 (0 : Int), AV.any, AV.any, AV.any, AV.any, AV.any, AV.any, AV.any, AV.any, AV.any, AV.any, AV.any, AV.any, AV.any, AV.any, AV.any, AV.any, AV.any, AV.any, AV.any, AV.any, AV.any, AV.any, AV.any, AV.any, AV.any, AV.any, AV.any, AV.any, AV.any, AV.any, AV.any, AV.any, AV.any, AV.any, AV.any, AV.any, AV.any, AV.any, AV.any, AV.any, AV.any, AV.any, AV.any, AV.any, AV.any, AV.any, AV.any, AV.any, AV.any, AV.any, AV.any, AV.any, AV.any, AV.any, AV.any, AV.any] ([some (Blk.mk true (4 : TypeId) (1 : Nat) true (bitsOf v w)), some (Blk.mk true (4 : TypeId) (1 : Nat) true (bitsOf m n))] ++ [some (Blk.mk true (3 : TypeId) (1 : Nat) true [])]) = ba16St k p v w m n (0 : Nat) ∧ Nat.le (0 : Nat) (pwN p)) ∧ ∀ (p_1 : Nat), Nat.le p_1 (pwN p) → (Decidable.decide ((↑p_1 : Int) < (↑(pwN p) : Int)) = true → inRange IntKind.i64 (k - (1 : Int)) ∧ (St.mk [AV.int IntKind.i64 k, AV.any, AV.any, AV.any, AV.any, AV.vsl ((0 : Nat) + (1 : Nat) + (1 : Nat)) (0 : Nat) (List.length (bk16R k v m p_1)), AV.int IntKind.i64 (↑(pwN p) : Int), AV.any, AV.slice (0 : Nat) (0 : Nat) (128 : Nat) false, AV.slice ((0 : Nat) + (1 : Nat)) (0 : Nat) (128 : Nat) false, AV.int IntKind.i64 (↑p_1 : Int), AV.bool true, AV.int IntKind.i64 (↑p_1 : Int), AV.int IntKind.i64 (k - (1 : Int)), AV.any, AV.any, AV.any, AV.any, AV.any, AV.any, AV.any, AV.any, AV.any, AV.any, AV.any, AV.any, AV.any, AV.any, AV.any, AV.any, AV.any, AV.any, AV.any, AV.any, AV.any, AV.any, AV.any, AV.any, AV.any, AV.any, AV.any, AV.any, AV.any, AV.any, AV.any, AV.any, AV.any, AV.any, AV.any, AV.any, AV.any, AV.any, AV.any, AV.any, AV.any, AV.any, AV.any, AV.any, AV.any, AV.any, AV.any, AV.any, AV.any, AV.any, AV.any, AV.any, AV.any] [some (Blk.mk true (4 : TypeId) (1 : Nat) true (bitsOf v w)), some (Blk.mk true (4 : TypeId) (1 : Nat) true (bitsOf m n)), some (Blk.mk true (3 : TypeId) (1 : Nat) true (bk16R k v m p_1))] = bb16St k p v w m n p_1 (Int.toNat k) ∧ Nat.le (Int.toNat k) (Int.toNat k)) ∧ ∀ (p_2 : Nat), Nat.le p_2 (Int.toNat k) → (Decidable.decide ((↑p_2 : Int) - (1 : Int) ≥ (0 : Int)) = true → ((0 : Int) ≤ (↑p_2 : Int) - (1 : Int) ∧ (↑p_2 : Int) - (1 : Int) < (↑(128 : Nat) : Int)) ∧ Blk.read Proofs.Try.prog (Blk.mk true (4 : TypeId) (1 : Nat) true (bitsOf m n)) (4 : Nat) ((0 : Nat) + Int.toNat ((↑p_2 : Int) - (1 : Int))) (0 : Nat) = some (AV.bool (bitAt m n (p_2 - (1 : Nat)))) ∧ (bitAt m n (p_2 - (1 : Nat)) = true → ((0 : Int) ≤ (↑p_2 : Int) - (1 : Int) ∧ (↑p_2 : Int) - (1 : Int) < (↑(128 : Nat) : Int)) ∧ Blk.read Proofs.Try.prog (Blk.mk true (4 : TypeId) (1 : Nat) true (bitsOf v w)) (4 : Nat) ((0 : Nat) + Int.toNat ((↑p_2 : Int) - (1 : Int))) (0 : Nat) = some (AV.bool (bitAt v w (p_2 - (1 : Nat)))) ∧ ((!bitAt v w (p_2 - (1 : Nat)) == (Int.tmod (↑(qN p_1 (Int.toNat k) p_2) : Int) (2 : Int) == (1 : Int))) = true → inRange IntKind.i64 (Int.tdiv (↑(qN p_1 (Int.toNat k) p_2) : Int) (2 : Int)) ∧ inRange IntKind.i64 ((↑p_2 : Int) - (1 : Int) - (1 : Int)) ∧ ∃ (p' : Nat), St.mk [AV.int IntKind.i64 k, AV.any, AV.any, AV.any, AV.any, AV.vsl ((0 : Nat) + (1 : Nat) + (1 : Nat)) (0 : Nat) (List.length (bk16R k v m p_1)), AV.int IntKind.i64 (↑(pwN p) : Int), AV.any, AV.slice (0 : Nat) (0 : Nat) (128 : Nat) false, AV.slice ((0 : Nat) + (1 : Nat)) (0 : Nat) (128 : Nat) false, AV.int IntKind.i64 (↑p_1 : Int), AV.bool false, AV.int IntKind.i64 (Int.tdiv (↑(qN p_1 (Int.toNat k) p_2) : Int) (2 : Int)), AV.int IntKind.i64 ((↑p_2 : Int) - (1 : Int) - (1 : Int)), AV.any, AV.any, AV.any, AV.any, AV.any, AV.any, AV.any, AV.any, AV.any, AV.any, AV.any, AV.any, AV.any, AV.any, AV.any, AV.any, AV.any, AV.any, AV.any, AV.any, AV.any, AV.any, AV.any, AV.any, AV.any, AV.any, AV.any, AV.any, AV.any, AV.any, AV.any, AV.any, AV.any, AV.any, AV.any, AV.any, AV.any, AV.any, AV.any, AV.any, AV.any, AV.any, AV.any, AV.any, AV.any, AV.any, AV.any, AV.any, AV.any, AV.any, AV.any, AV.any, AV.any] [some (Blk.mk true (4 : TypeId) (1 : Nat) true (bitsOf v w)), some (Blk.mk true (4 : TypeId) (1 : Nat) true (bitsOf m n)), some (Blk.mk true (3 : TypeId) (1 : Nat) true (bk16R k v m p_1))] = bb16St k p v w m n p_1 p' ∧ Nat.le p' (Int.toNat k) ∧ p' < p_2) ∧ ((!bitAt v w (p_2 - (1 : Nat)) == (Int.tmod (↑(qN p_1 (Int.toNat k) p_2) : Int) (2 : Int) == (1 : Int))) = false → inRange IntKind.i64 (Int.tdiv (↑(qN p_1 (Int.toNat k) p_2) : Int) (2 : Int)) ∧ inRange IntKind.i64 ((↑p_2 : Int) - (1 : Int) - (1 : Int)) ∧ ∃ (p' : Nat), St.mk [AV.int IntKind.i64 k, AV.any, AV.any, AV.any, AV.any, AV.vsl ((0 : Nat) + (1 : Nat) + (1 : Nat)) (0 : Nat) (List.length (bk16R k v m p_1)), AV.int IntKind.i64 (↑(pwN p) : Int), AV.any, AV.slice (0 : Nat) (0 : Nat) (128 : Nat) false, AV.slice ((0 : Nat) + (1 : Nat)) (0 : Nat) (128 : Nat) false, AV.int IntKind.i64 (↑p_1 : Int), AV.bool (okT (Int.toNat k) v m p_1 p_2), AV.int IntKind.i64 (Int.tdiv (↑(qN p_1 (Int.toNat k) p_2) : Int) (2 : Int)), AV.int IntKind.i64 ((↑p_2 : Int) - (1 : Int) - (1 : Int)), AV.any, AV.any, AV.any, AV.any, AV.any, AV.any, AV.any, AV.any, AV.any, AV.any, AV.any, AV.any, AV.any, AV.any, AV.any, AV.any, AV.any, AV.any, AV.any, AV.any, AV.any, AV.any, AV.any, AV.any, AV.any, AV.any, AV.any, AV.any, AV.any, AV.any, AV.any, AV.any, AV.any, AV.any, AV.any, AV.any, AV.any, AV.any, AV.any, AV.any, AV.any, AV.any, AV.any, AV.any, AV.any, AV.any, AV.any, AV.any, AV.any, AV.any, AV.any, AV.any, AV.any] [some (Blk.mk true (4 : TypeId) (1 : Nat) true (bitsOf v w)), some (Blk.mk true (4 : TypeId) (1 : Nat) true (bitsOf m n)), some (Blk.mk true (3 : TypeId) (1 : Nat) true (bk16R k v m p_1))] = bb16St k p v w m n p_1 p' ∧ Nat.le p' (Int.toNat k) ∧ p' < p_2)) ∧ (bitAt m n (p_2 - (1 : Nat)) = false → inRange IntKind.i64 (Int.tdiv (↑(qN p_1 (Int.toNat k) p_2) : Int) (2 : Int)) ∧ inRange IntKind.i64 ((↑p_2 : Int) - (1 : Int) - (1 : Int)) ∧ ∃ (p' : Nat), St.mk [AV.int IntKind.i64 k, AV.any, AV.any, AV.any, AV.any, AV.vsl ((0 : Nat) + (1 : Nat) + (1 : Nat)) (0 : Nat) (List.length (bk16R k v m p_1)), AV.int IntKind.i64 (↑(pwN p) : Int), AV.any, AV.slice (0 : Nat) (0 : Nat) (128 : Nat) false, AV.slice ((0 : Nat) + (1 : Nat)) (0 : Nat) (128 : Nat) false, AV.int IntKind.i64 (↑p_1 : Int), AV.bool (okT (Int.toNat k) v m p_1 p_2), AV.int IntKind.i64 (Int.tdiv (↑(qN p_1 (Int.toNat k) p_2) : Int) (2 : Int)), AV.int IntKind.i64 ((↑p_2 : Int) - (1 : Int) - (1 : Int)), AV.any, AV.any, AV.any, AV.any, AV.any, AV.any, AV.any, AV.any, AV.any, AV.any, AV.any, AV.any, AV.any, AV.any, AV.any, AV.any, AV.any, AV.any, AV.any, AV.any, AV.any, AV.any, AV.any, AV.any, AV.any, AV.any, AV.any, AV.any, AV.any, AV.any, AV.any, AV.any, AV.any, AV.any, AV.any, AV.any, AV.any, AV.any, AV.any, AV.any, AV.any, AV.any, AV.any, AV.any, AV.any, AV.any, AV.any, AV.any, AV.any, AV.any, AV.any, AV.any, AV.any] [some (Blk.mk true (4 : TypeId) (1 : Nat) true (bitsOf v w)), some (Blk.mk true (4 : TypeId) (1 : Nat) true (bitsOf m n)), some (Blk.mk true (3 : TypeId) (1 : Nat) true (bk16R k v m p_1))] = bb16St k p v w m n p_1 p' ∧ Nat.le p' (Int.toNat k) ∧ p' < p_2)) ∧ (Decidable.decide ((↑p_2 : Int) - (1 : Int) ≥ (0 : Int)) = false → (okT (Int.toNat k) v m p_1 p_2 = true → ((List.length (bk16R k v m p_1) + (1 : Nat)) * (8 : Nat) ≤ (140737488355328 : Nat) ∧ List.length (bk16R k v m p_1) + (1 : Nat) ≤ (9223372036854775807 : Nat) ∧ (0 : Nat) + (1 : Nat) ≤ List.length [AV.int IntKind.i64 (↑p_1 : Int)] ∧ List.length (bk16R k v m p_1) ≤ List.length (List.map inA (List.map Int.ofNat (bkU (Int.toNat k) v m p_1)))) ∧ List.take (List.length (bk16R k v m p_1)) (List.map inA (List.map Int.ofNat (bkU (Int.toNat k) v m p_1))) ++ [AV.int IntKind.i64 (↑p_1 : Int)] = bk16R k v m (p_1 + (1 : Nat)) ∧ inRange IntKind.i64 ((↑p_1 : Int) + (1 : Int)) ∧ ∃ (p' : Nat), St.mk [AV.int IntKind.i64 k, AV.any, AV.any, AV.any, AV.any, AV.vsl ((0 : Nat) + (1 : Nat) + (1 : Nat)) (0 : Nat) (List.length (bk16R k v m p_1) + (1 : Nat)), AV.int IntKind.i64 (↑(pwN p) : Int), AV.any, AV.slice (0 : Nat) (0 : Nat) (128 : Nat) false, AV.slice ((0 : Nat) + (1 : Nat)) (0 : Nat) (128 : Nat) false, AV.int IntKind.i64 ((↑p_1 : Int) + (1 : Int)), AV.any, AV.any, AV.any, AV.any, AV.any, AV.any, AV.any, AV.any, AV.any, AV.any, AV.any, AV.any, AV.any, AV.any, AV.any, AV.any, AV.any, AV.any, AV.any, AV.any, AV.any, AV.any, AV.any, AV.any, AV.any, AV.any, AV.any, AV.any, AV.any, AV.any, AV.any, AV.any, AV.any, AV.any, AV.any, AV.any, AV.any, AV.any, AV.any, AV.any, AV.any, AV.any, AV.any, AV.any, AV.any, AV.any, AV.any, AV.any, AV.any, AV.any, AV.any, AV.any, AV.any, AV.any, AV.any, AV.any] [some (Blk.mk true (4 : TypeId) (1 : Nat) true (bitsOf v w)), some (Blk.mk true (4 : TypeId) (1 : Nat) true (bitsOf m n)), some (Blk.mk true (3 : Nat) (1 : Nat) true (bk16R k v m (p_1 + (1 : Nat))))] = ba16St k p v w m n p' ∧ Nat.le p' (pwN p) ∧ pwN p + (1 : Nat) - p' < pwN p + (1 : Nat) - p_1) ∧ (okT (Int.toNat k) v m p_1 p_2 = false → inRange IntKind.i64 ((↑p_1 : Int) + (1 : Int)) ∧ ∃ (p' : Nat), St.mk [AV.int IntKind.i64 k, AV.any, AV.any, AV.any, AV.any, AV.vsl ((0 : Nat) + (1 : Nat) + (1 : Nat)) (0 : Nat) (List.length (bk16R k v m p_1)), AV.int IntKind.i64 (↑(pwN p) : Int), AV.any, AV.slice (0 : Nat) (0 : Nat) (128 : Nat) false, AV.slice ((0 : Nat) + (1 : Nat)) (0 : Nat) (128 : Nat) false, AV.int IntKind.i64 ((↑p_1 : Int) + (1 : Int)), AV.any, AV.any, AV.any, AV.any, AV.any, AV.any, AV.any, AV.any, AV.any, AV.any, AV.any, AV.any, AV.any, AV.any, AV.any, AV.any, AV.any, AV.any, AV.any, AV.any, AV.any, AV.any, AV.any, AV.any, AV.any, AV.any, AV.any, AV.any, AV.any, AV.any, AV.any, AV.any, AV.any, AV.any, AV.any, AV.any, AV.any, AV.any, AV.any, AV.any, AV.any, AV.any, AV.any, AV.any, AV.any, AV.any, AV.any, AV.any, AV.any, AV.any, AV.any, AV.any, AV.any, AV.any, AV.any, AV.any] [some (Blk.mk true (4 : TypeId) (1 : Nat) true (bitsOf v w)), some (Blk.mk true (4 : TypeId) (1 : Nat) true (bitsOf m n)), some (Blk.mk true (3 : TypeId) (1 : Nat) true (bk16R k v m p_1))] = ba16St k p v w m n p' ∧ Nat.le p' (pwN p) ∧ pwN p + (1 : Nat) - p' < pwN p + (1 : Nat) - p_1))) ∧ (Decidable.decide ((↑p_1 : Int) < (↑(pwN p) : Int)) = false → List.length (bk16R k v m p_1) = List.length (List.map inA (bkI k v m)) ∧ some (Blk.mk true (3 : TypeId) (1 : Nat) true (bk16R k v m p_1)) = some (Blk.mk true (3 : TypeId) (1 : Nat) true (List.map inA (bkI k v m)))))))) := by kernel_rfl

theorem rbanks16Cs_ok : ∀ e ∈ rbanks16Cs, SpecOK Try.prog e.1 e.2 := by
  intro e he
  simp only [rbanks16Cs, List.mem_cons, List.not_mem_nil, or_false] at he
  rcases he with rfl
  · exact bits_ok

theorem rbanks16_ok : SpecOK Try.prog 10 (genSpec [none, none] gbanks16F) := by
  refine genSpec_ok (run_ok (l := rbanks16Cs) rbanks16Cs_ok mixed noNG) fun l R hF => ?_
  unfold gbanks16F at hF
  split at hF
  · rename_i k v w m n
    refine ⟨_, hF, trivial, (bn16H k v w m n), ?_⟩
    show run rbanks16Cs Try.prog _ [.int .i64 k, .agg [.w64 v, .w64 w, .w64 m, .w64 n]] [] _ _
    rw [rbanks16_run]
    have bad : rtI k = false → List.map inA (bkI k v m) = [] := fun h => by unfold bkI; rw [h]; rfl
    refine ⟨fun h => bad ?_, fun h => ⟨fun h3 => bad ?_, fun h3 => ?_⟩⟩
    · have h := of_decide_eq_true h
      exact notTT2 rtI_iff (by omega)
    · have h3 := of_decide_eq_true h3
      exact notTT2 rtI_iff (by omega)
    · have h := of_decide_eq_false h
      have h3 := of_decide_eq_false h3
      obtain ⟨kk, rfl⟩ := Int.eq_ofNat_of_zero_le (show 0 ≤ k by omega)
      have hk : kk ≤ 3 := by omega
      have hr : rtI (kk : Int) = true := rtI_iff.2 (by omega)
      refine ⟨⟨rfl, Nat.zero_le _⟩, ?_⟩
      intro i (hi : i ≤ kk)
      have h8 : pwN i ≤ 8 := pow_le (show i ≤ 3 by omega)
      refine ⟨fun hlt => ?_, fun hge => ?_⟩
      · have hlt := of_decide_eq_true hlt
        have hik : i < kk := by omega
        refine ⟨inR (by omega) (by omega), inR (by omega) (by omega), i + 1, ?_, hik, ?_⟩
        · have e : ((pwN (i + 1) : Nat) : Int) = (pwN i : Int) * 2 := by
            unfold pwN
            rw [Nat.pow_succ]
            omega
          unfold bn16St
          rw [e]
          rfl
        · show kk + 1 - (i + 1) < kk + 1 - i
          omega
      have hge := of_decide_eq_false hge
      have e : i = kk := by omega
      subst e
      refine ⟨⟨rfl, Nat.zero_le _⟩, ?_⟩
      intro j (hj : j ≤ pwN i)
      have hlen : (bk16R (i : Int) v m j).length ≤ j := by
        unfold bk16R
        rw [List.length_map, List.length_map]
        exact bkU_length _ _ _ _
      refine ⟨fun hlt => ?_, fun hge => ?_⟩
      · have hlt := of_decide_eq_true hlt
        have hjk : j < pwN i := by omega
        refine ⟨inR (by omega) (by omega), ⟨?_, Nat.le_refl _⟩, ?_⟩
        · unfold bb16St
          rw [Int.toNat_natCast, okT_top, qN_top]
          rfl
        intro t (ht : t ≤ i)
        have hq := qN_le j i t
        have hq2 : Int.tdiv ((qN j i t : Nat) : Int) 2 = ((qN j i t / 2 : Nat) : Int) := (Int.ofNat_tdiv _ _).symm
        have hq3 : Int.tmod ((qN j i t : Nat) : Int) 2 = ((qN j i t % 2 : Nat) : Int) := (Int.ofNat_tmod _ _).symm
        refine ⟨fun ht0 => ?_, fun ht0 => ?_⟩
        · have ht0 := of_decide_eq_true ht0
          obtain ⟨s, rfl⟩ : ∃ s, t = s + 1 := ⟨t - 1, by omega⟩
          rw [show ((s + 1 : Nat) : Int) - 1 = (s : Int) from by omega, show s + 1 - 1 = s from rfl]
          simp only [Int.toNat_natCast, hq2, hq3]
          have hst : okT i v m j s = (okT i v m j (s + 1) && (!m.getMsbD s || v.getMsbD s == j.testBit (i - 1 - s))) := okT_step (by omega)
          have hnx : qN j i (s + 1) / 2 = qN j i s := qN_next (by omega)
          have hbt : (((qN j i (s + 1) % 2 : Nat) : Int) == 1) = j.testBit (i - 1 - s) := by
            rw [← qN_bit, Bool.eq_iff_iff, beq_iff_eq, decide_eq_true_eq]
            omega
          rw [bitAt_first (by omega), bitAt_first (by omega)] 
          refine ⟨⟨by omega, by omega⟩, ?_, fun hm => ⟨⟨by omega, by omega⟩, ?_, fun hv => ?_, fun hv => ?_⟩, fun hm => ?_⟩
          · exact read_bits (k := (s : Int)) (by omega) (by omega) (bitAt_first (by omega))
          · exact read_bits (k := (s : Int)) (by omega) (by omega) (bitAt_first (by omega))
          · rw [hbt] at hv
            rw [hm] at hst
            have he : (v.getMsbD s == j.testBit (i - 1 - s)) = false := by simpa using hv
            rw [he, Bool.not_true, Bool.false_or, Bool.and_false] at hst
            refine ⟨inR (by omega) (by omega), inR (by omega) (by omega), s, ?_, by show s ≤ i; omega, by omega⟩
            unfold bb16St
            rw [Int.toNat_natCast, hst, ← hnx]
            rfl
          · rw [hbt] at hv
            rw [hm] at hst
            have he : (v.getMsbD s == j.testBit (i - 1 - s)) = true := by simpa using hv
            rw [he, Bool.not_true, Bool.false_or, Bool.and_true] at hst
            refine ⟨inR (by omega) (by omega), inR (by omega) (by omega), s, ?_, by show s ≤ i; omega, by omega⟩
            unfold bb16St
            rw [Int.toNat_natCast, hst, ← hnx]
            rfl
          · rw [hm, Bool.not_false, Bool.true_or, Bool.and_true] at hst
            refine ⟨inR (by omega) (by omega), inR (by omega) (by omega), s, ?_, by show s ≤ i; omega, by omega⟩
            unfold bb16St
            rw [Int.toNat_natCast, hst, ← hnx]
            rfl
        · have ht0 := of_decide_eq_false ht0
          have e : t = 0 := by omega
          subst e
          rw [Int.toNat_natCast, okT_zero]
          refine ⟨fun ho => ?_, fun ho => ?_⟩
          · have hb : bk16R (i : Int) v m (j + 1) = bk16R (i : Int) v m j ++ [AV.int .i64 (j : Int)] := by
              unfold bk16R
              rw [Int.toNat_natCast, bkU_succ, if_pos ho, List.map_append, List.map_append]
              rfl
            refine ⟨⟨by omega, by omega, Nat.le_refl _, Nat.le_refl _⟩, ?_, inR (by omega) (by omega), j + 1, ?_, hjk, by omega⟩
            · rw [hb]
              exact congrArg (· ++ [AV.int .i64 (j : Int)]) (List.take_length)
            · unfold ba16St
              rw [hb, List.length_append]
              rfl
          · have hb : bk16R (i : Int) v m (j + 1) = bk16R (i : Int) v m j := by
              unfold bk16R
              rw [Int.toNat_natCast, bkU_succ, if_neg (by rw [ho]; exact Bool.false_ne_true), List.append_nil]
            refine ⟨inR (by omega) (by omega), j + 1, ?_, hjk, by omega⟩
            unfold ba16St
            rw [hb]
            rfl
      · have hge := of_decide_eq_false hge
        have e : j = pwN i := by omega
        have hb : bk16R (i : Int) v m j = List.map inA (bkI i v m) := by
          unfold bk16R bkI
          rw [if_pos hr, e]
          rfl
        rw [hb]
        exact ⟨rfl, rfl⟩
  · exact hF.elim


noncomputable def rpart16Cs : List (FuncId × Sx.Spec) := [(10, genSpec [none, none] gbanks16F)]

theorem rpart16_run (k j : Int) (l : List En) : run rpart16Cs Try.prog 19 [.int .i64 k, .int .i64 j, .vsl 0 0 (l.map enE).length] [some ⟨false, (pRefE.getD (0, 0)).1, (pRefE.getD (0, 0)).2, true, (l.map enE)⟩] (pt16H k j l) (yields (.vrow 45 6 ((ptI k j l).map enE))) =
    ((St.mk [AV.int IntKind.i64 k, AV.int IntKind.i64 j, AV.vsl (0 : Nat) (0 : Nat) (List.length (List.map enE l)), AV.any, AV.any, AV.any, AV.any, AV.vsl (List.length [some (Blk.mk false (45 : TypeId) (6 : Nat) true (List.map enE l))]) (0 : Nat) (0 : Nat), AV.int IntKind.i64 (0 : Int), AV.any, AV.any, AV.any, AV.any, AV.any, AV.any, AV.any, AV.any, AV.any, AV.any, AV.any, AV.any, AV.any, AV.any, AV.any, AV.any, AV.any, AV.any, AV.any, AV.any, AV.any, AV.any, AV.any, AV.any, AV.any, AV.any, AV.any, AV.any, AV.any, AV.any, AV.any, AV.any, AV.any, AV.any, AV.any] ([some (Blk.mk false (45 : TypeId) (6 : Nat) true (List.map enE l))] ++ [some (Blk.mk true (45 : TypeId) (6 : Nat) true [])]) = pt16St k j l (0 : Nat) ∧ Nat.le (0 : Nat) (List.length l)) ∧ ∀ (p : Nat), Nat.le p (List.length l) → (Decidable.decide ((↑p : Int) < (↑(List.length (List.map enE l)) : Int)) = true → ((0 : Int) ≤ (↑p : Int) ∧ (↑p : Int) < (↑(List.length (List.map enE l)) : Int)) ∧ Blk.read Proofs.Try.prog (Blk.mk false (45 : TypeId) (6 : Nat) true (List.map enE l)) (31 : Nat) ((0 : Nat) + Int.toNat (↑p : Int)) ((0 : Nat) + (0 : Nat)) = some (AV.agg [AV.w64 (at' l p).1, AV.w64 (at' l p).2, AV.w64 (at' l p).3, AV.w64 (at' l p).4]) ∧ (List.map inA (bkI k (at' l p).1 (at' l p).3) = bq16R k (at' l p) ∧ List.length (List.map inA (bkI k (at' l p).1 (at' l p).3)) = List.length (bq16R k (at' l p))) ∧ (St.mk [AV.int IntKind.i64 k, AV.int IntKind.i64 j, AV.vsl (0 : Nat) (0 : Nat) (List.length (List.map enE l)), AV.any, AV.any, AV.any, AV.any, AV.vsl ((0 : Nat) + (1 : Nat)) (0 : Nat) (List.length (pt16R k j l p (0 : Nat))), AV.int IntKind.i64 (↑p : Int), AV.vsl ((0 : Nat) + (1 : Nat) + (1 : Nat)) (0 : Nat) (List.length (bq16R k (at' l p))), AV.int IntKind.i64 (0 : Int), AV.any, AV.any, AV.any, AV.any, AV.any, AV.any, AV.any, AV.any, AV.any, AV.any, AV.any, AV.any, AV.any, AV.any, AV.any, AV.any, AV.any, AV.any, AV.any, AV.any, AV.any, AV.any, AV.any, AV.any, AV.any, AV.any, AV.any, AV.any, AV.any, AV.any, AV.any, AV.any, AV.any] [some (Blk.mk false (45 : TypeId) (6 : Nat) true (List.map enE l)), some (Blk.mk true (45 : TypeId) (6 : Nat) true (pt16R k j l p (0 : Nat))), some (Blk.mk true (3 : TypeId) (1 : Nat) true (bq16R k (at' l p)))] = pq16St k j l p (0 : Nat) ∧ Nat.le (0 : Nat) (List.length (bq16R k (at' l p)))) ∧ ∀ (p_1 : Nat), Nat.le p_1 (List.length (bq16R k (at' l p))) → (Decidable.decide ((↑p_1 : Int) < (↑(List.length (bq16R k (at' l p))) : Int)) = true → ((0 : Int) ≤ (↑p_1 : Int) ∧ (↑p_1 : Int) < (↑(List.length (bq16R k (at' l p))) : Int)) ∧ Blk.read Proofs.Try.prog (Blk.mk true (3 : TypeId) (1 : Nat) true (bq16R k (at' l p))) (3 : Nat) ((0 : Nat) + Int.toNat (↑p_1 : Int)) (0 : Nat) = some (AV.int IntKind.i64 (List.getD (bkI k (at' l p).1 (at' l p).3) p_1 (0 : Int))) ∧ ((List.getD (bkI k (at' l p).1 (at' l p).3) p_1 (0 : Int) == j) = true → ((0 : Int) ≤ (↑p : Int) ∧ (↑p : Int) < (↑(List.length (List.map enE l)) : Int)) ∧ Blk.read Proofs.Try.prog (Blk.mk false (45 : TypeId) (6 : Nat) true (List.map enE l)) (45 : Nat) ((0 : Nat) + Int.toNat (↑p : Int)) (0 : Nat) = some (AV.agg [AV.w64 (at' l p).1, AV.w64 (at' l p).2, AV.w64 (at' l p).3, AV.w64 (at' l p).4, AV.int IntKind.i64 (at' l p).5, AV.int IntKind.i64 (at' l p).6]) ∧ ((List.length (pt16R k j l p p_1) + (1 : Nat)) * (48 : Nat) ≤ (140737488355328 : Nat) ∧ List.length (pt16R k j l p p_1) + (1 : Nat) ≤ (9223372036854775807 : Nat) ∧ (0 : Nat) + (1 : Nat) ≤ List.length [AV.agg [AV.w64 (at' l p).1, AV.w64 (at' l p).2, AV.w64 (at' l p).3, AV.w64 (at' l p).4, AV.int IntKind.i64 (at' l p).5, AV.int IntKind.i64 (at' l p).6]] ∧ List.length (pt16R k j l p p_1) ≤ List.length (List.map enE (ptI k j (List.take p l) ++ ptQ k j (at' l p) p_1))) ∧ List.take (List.length (pt16R k j l p p_1)) (List.map enE (ptI k j (List.take p l) ++ ptQ k j (at' l p) p_1)) ++ [AV.agg [AV.w64 (at' l p).1, AV.w64 (at' l p).2, AV.w64 (at' l p).3, AV.w64 (at' l p).4, AV.int IntKind.i64 (at' l p).5, AV.int IntKind.i64 (at' l p).6]] = pt16R k j l p (p_1 + (1 : Nat)) ∧ inRange IntKind.i64 ((↑p_1 : Int) + (1 : Int)) ∧ ∃ (p' : Nat), St.mk [AV.int IntKind.i64 k, AV.int IntKind.i64 j, AV.vsl (0 : Nat) (0 : Nat) (List.length (List.map enE l)), AV.any, AV.any, AV.any, AV.any, AV.vsl ((0 : Nat) + (1 : Nat)) (0 : Nat) (List.length (pt16R k j l p p_1) + (1 : Nat)), AV.int IntKind.i64 (↑p : Int), AV.vsl ((0 : Nat) + (1 : Nat) + (1 : Nat)) (0 : Nat) (List.length (bq16R k (at' l p))), AV.int IntKind.i64 ((↑p_1 : Int) + (1 : Int)), AV.any, AV.any, AV.any, AV.any, AV.any, AV.any, AV.any, AV.any, AV.any, AV.any, AV.any, AV.any, AV.any, AV.any, AV.any, AV.any, AV.any, AV.any, AV.any, AV.any, AV.any, AV.any, AV.any, AV.any, AV.any, AV.any, AV.any, AV.any, AV.any, AV.any, AV.any, AV.any, AV.any] [some (Blk.mk false (45 : TypeId) (6 : Nat) true (List.map enE l)), some (Blk.mk true (45 : Nat) (6 : Nat) true (pt16R k j l p (p_1 + (1 : Nat)))), some (Blk.mk true (3 : TypeId) (1 : Nat) true (bq16R k (at' l p)))] = pq16St k j l p p' ∧ Nat.le p' (List.length (bq16R k (at' l p))) ∧ List.length (bq16R k (at' l p)) + (1 : Nat) - p' < List.length (bq16R k (at' l p)) + (1 : Nat) - p_1) ∧ ((List.getD (bkI k (at' l p).1 (at' l p).3) p_1 (0 : Int) == j) = false → inRange IntKind.i64 ((↑p_1 : Int) + (1 : Int)) ∧ ∃ (p' : Nat), St.mk [AV.int IntKind.i64 k, AV.int IntKind.i64 j, AV.vsl (0 : Nat) (0 : Nat) (List.length (List.map enE l)), AV.any, AV.any, AV.any, AV.any, AV.vsl ((0 : Nat) + (1 : Nat)) (0 : Nat) (List.length (pt16R k j l p p_1)), AV.int IntKind.i64 (↑p : Int), AV.vsl ((0 : Nat) + (1 : Nat) + (1 : Nat)) (0 : Nat) (List.length (bq16R k (at' l p))), AV.int IntKind.i64 ((↑p_1 : Int) + (1 : Int)), AV.any, AV.any, AV.any, AV.any, AV.any, AV.any, AV.any, AV.any, AV.any, AV.any, AV.any, AV.any, AV.any, AV.any, AV.any, AV.any, AV.any, AV.any, AV.any, AV.any, AV.any, AV.any, AV.any, AV.any, AV.any, AV.any, AV.any, AV.any, AV.any, AV.any, AV.any, AV.any, AV.any] [some (Blk.mk false (45 : TypeId) (6 : Nat) true (List.map enE l)), some (Blk.mk true (45 : TypeId) (6 : Nat) true (pt16R k j l p p_1)), some (Blk.mk true (3 : TypeId) (1 : Nat) true (bq16R k (at' l p)))] = pq16St k j l p p' ∧ Nat.le p' (List.length (bq16R k (at' l p))) ∧ List.length (bq16R k (at' l p)) + (1 : Nat) - p' < List.length (bq16R k (at' l p)) + (1 : Nat) - p_1)) ∧ (Decidable.decide ((↑p_1 : Int) < (↑(List.length (bq16R k (at' l p))) : Int)) = false → inRange IntKind.i64 ((↑p : Int) + (1 : Int)) ∧ ∃ (p' : Nat), St.mk [AV.int IntKind.i64 k, AV.int IntKind.i64 j, AV.vsl (0 : Nat) (0 : Nat) (List.length (List.map enE l)), AV.any, AV.any, AV.any, AV.any, AV.vsl ((0 : Nat) + (1 : Nat)) (0 : Nat) (List.length (pt16R k j l p p_1)), AV.int IntKind.i64 ((↑p : Int) + (1 : Int)), AV.any, AV.any, AV.any, AV.any, AV.any, AV.any, AV.any, AV.any, AV.any, AV.any, AV.any, AV.any, AV.any, AV.any, AV.any, AV.any, AV.any, AV.any, AV.any, AV.any, AV.any, AV.any, AV.any, AV.any, AV.any, AV.any, AV.any, AV.any, AV.any, AV.any, AV.any, AV.any, AV.any, AV.any, AV.any] [some (Blk.mk false (45 : TypeId) (6 : Nat) true (List.map enE l)), some (Blk.mk true (45 : TypeId) (6 : Nat) true (pt16R k j l p p_1))] = pt16St k j l p' ∧ Nat.le p' (List.length l) ∧ List.length l + (1 : Nat) - p' < List.length l + (1 : Nat) - p)) ∧ (Decidable.decide ((↑p : Int) < (↑(List.length (List.map enE l)) : Int)) = false → List.length (pt16R k j l p (0 : Nat)) = List.length (List.map enE (ptI k j l)) ∧ some (Blk.mk true (45 : TypeId) (6 : Nat) true (pt16R k j l p (0 : Nat))) = some (Blk.mk true (45 : TypeId) (6 : Nat) true (List.map enE (ptI k j l))))) := by kernel_rfl

theorem rpart16Cs_ok : ∀ e ∈ rpart16Cs, SpecOK Try.prog e.1 e.2 := by
  intro e he
  simp only [rpart16Cs, List.mem_cons, List.not_mem_nil, or_false] at he
  rcases he with rfl
  · exact rbanks16_ok

theorem rpart16_ok : SpecOK Try.prog 19 (genSpec [none, none, pRefE] rpart16F) := by
  refine genSpec_ok (run_ok (l := rpart16Cs) rpart16Cs_ok mixed noNG) fun l R hF => ?_
  unfold rpart16F at hF
  split at hF
  · rename_i k j r_l
    obtain ⟨hr_l, hl, hF⟩ := hF
    generalize deE r_l = l at hr_l hl hF
    subst hr_l
    refine ⟨_, hF, trivial, (pt16H k j l), ?_⟩
    show run rpart16Cs Try.prog _ [.int .i64 k, .int .i64 j, .vsl 0 0 (l.map enE).length] [some ⟨false, (pRefE.getD (0, 0)).1, (pRefE.getD (0, 0)).2, true, (l.map enE)⟩] _ _
    rw [rpart16_run]
    have hml : (l.map enE).length = l.length := List.length_map _
    have hpl : ∀ i q, (pt16R k j l i q).length ≤ l.length + 8 := fun i q => by
      unfold pt16R
      rw [List.length_map, List.length_append]
      have h1 := ptI_length k j (l.take i)
      have h2 := ptQ_length k j (at' l i) q
      have h3 : (l.take i).length ≤ l.length := by rw [List.length_take]; omega
      omega
    have hbl : ∀ x, (bq16R k x).length = (bkI k x.v x.m).length := fun x => List.length_map _
    have hp0 : ∀ i, pt16R k j l i 0 = (ptI k j (l.take i)).map enE := fun i => by
      unfold pt16R ptQ
      rw [List.take_zero, List.filter_nil, List.map_nil, List.append_nil]
    refine ⟨⟨rfl, Nat.zero_le _⟩, ?_⟩
    intro i (hi : i ≤ l.length)
    refine ⟨fun hlt => ?_, fun hge => ?_⟩
    · have hlt := of_decide_eq_true hlt
      have hik : i < l.length := by omega
      have B : 0 ≤ (i : Int) ∧ (i : Int) < ((l.map enE).length : Int) := by omega
      refine ⟨B, read_rows B.1 B.2 (ref_word _), ⟨rfl, rfl⟩, ⟨?_, Nat.zero_le _⟩, ?_⟩
      · rfl
      intro q (hq : q ≤ (bq16R k (at' l i)).length)
      have h8 := bkI_length k (at' l i).v (at' l i).m
      have hb := hbl (at' l i)
      refine ⟨fun hlq => ?_, fun hgq => ?_⟩
      · have hlq := of_decide_eq_true hlq
        have hqk : q < (bkI k (at' l i).v (at' l i).m).length := by omega
        have Bq : 0 ≤ (q : Int) ∧ (q : Int) < ((bq16R k (at' l i)).length : Int) := by omega
        refine ⟨Bq, ?_, fun he => ?_, fun he => ?_⟩
        · exact read_rows (de := inA) (l := bkI k (at' l i).v (at' l i).m) Bq.1 Bq.2 (int_whole _)
        · have he : (bkI k (at' l i).v (at' l i).m).getD q 0 = j := by simpa using he
          have hs : pt16R k j l i (q + 1) = pt16R k j l i q ++ [enE (at' l i)] := by
            unfold pt16R
            rw [ptQ_succ hqk, if_pos he, ← List.append_assoc, List.map_append (l₁ := _ ++ _)]
            rfl
          have := hpl i q
          refine ⟨B, read_rows B.1 B.2 (ref_whole _), ⟨by omega, by omega, Nat.le_refl _, Nat.le_refl _⟩, ?_, inR (by omega) (by omega), q + 1, ?_, by show q + 1 ≤ _; omega, by omega⟩
          · rw [hs]
            exact congrArg (· ++ [enE (at' l i)]) List.take_length
          · unfold pq16St
            rw [hs, List.length_append]
            rfl
        · have he : ¬ (bkI k (at' l i).v (at' l i).m).getD q 0 = j := by simpa using he
          have hs : pt16R k j l i (q + 1) = pt16R k j l i q := by
            unfold pt16R
            rw [ptQ_succ hqk, if_neg he, List.append_nil]
          refine ⟨inR (by omega) (by omega), q + 1, ?_, by show q + 1 ≤ _; omega, by omega⟩
          unfold pq16St
          rw [hs]
          rfl
      · have hgq := of_decide_eq_false hgq
        have hqk : q = (bkI k (at' l i).v (at' l i).m).length := by omega
        have hs : pt16R k j l i q = pt16R k j l (i + 1) 0 := by
          rw [hp0, ptI_succ hik, hqk]
          unfold pt16R
          rw [ptQ_all]
        refine ⟨inR (by omega) (by omega), i + 1, ?_, hik, by omega⟩
        unfold pt16St
        rw [← hs]
        rfl
    · have hge := of_decide_eq_false hge
      have e : i = l.length := by omega
      rw [hp0, e, List.take_length]
      exact ⟨rfl, rfl⟩
  · exact hF.elim


end Go.Proofs.Ythfgocpejlhanaa.L1
end

section
/-
  Layer 16: what the document fixes of one bit; the lists of contracts.
-/
namespace Go.Proofs.Ythfgocpejlhanaa.L1
open Go.Sx Go.Sx.M

noncomputable def g16Cs : List (FuncId × Sx.Spec) := [(13, genSpec [none] gright16F), (12, genSpec [none] gmany16F), (14, genSpec [none, none] gof16F), (9, genSpec [none, none] gbanks16F), (18, genSpec [none, none, pEn] gpart16F), (21, genSpec [none, pEn] gcopies16F)]

noncomputable def k16Cs : List (FuncId × Sx.Spec) := [(33, genSpec [none, none] eofF),
  (26, genSpec [none, none] makeF)]

theorem k16Cs_ok : ∀ e ∈ k16Cs, SpecOK Try.prog e.1 e.2 := by
  intro e he
  simp only [k16Cs, List.mem_cons, List.not_mem_nil, or_false] at he
  rcases he with rfl | rfl
  · exact eof_ok
  · exact pmake_ok

noncomputable def awake16Cs : List (FuncId × Sx.Spec) := k16Cs ++ g16Cs

def aw16H : List Hint := [.br true, .cell (.int .i64 1), .br true, .br true, .br true, .br true, .br true]

theorem awake16_run (_u : Unit) : run awake16Cs Try.prog 16 [] [] aw16H (comesTo (.bool true)) =
    (((↑(List.length [AV.int IntKind.i64 (Int.ofNat (nat_lit 0)), AV.int IntKind.i64 (Int.ofNat (nat_lit 1))]) : Int) == (2 : Int)) = true ∧ ((0 : Int) ≤ (1 : Int) ∧ (1 : Int) < (↑(List.length [AV.int IntKind.i64 (Int.ofNat (nat_lit 0)), AV.int IntKind.i64 (Int.ofNat (nat_lit 1))]) : Int)) ∧ Blk.read Proofs.Try.prog (Blk.mk true (3 : TypeId) (1 : Nat) true [AV.int IntKind.i64 (Int.ofNat (nat_lit 0)), AV.int IntKind.i64 (Int.ofNat (nat_lit 1))]) (3 : Nat) ((0 : Nat) + Int.toNat (1 : Int)) (0 : Nat) = some (AV.int IntKind.i64 (1 : Int)) ∧ ((1 : Int) == (1 : Int)) = true ∧ ((↑(List.length [AV.int IntKind.i64 (Int.ofNat (nat_lit 0))]) : Int) == (1 : Int)) = true ∧ [AV.agg [AV.w64 (BitVec.ofInt (64 : Nat) (720575940379279360 : Int) &&& mkW (8 : Int) &&& mkW (clamp (8 : Int))), AV.w64 (BitVec.ofInt (64 : Nat) (0 : Int) &&& mkW ((8 : Int) - (64 : Int)) &&& mkW (clamp (8 : Int) - (64 : Int))), AV.w64 (mkW (clamp (8 : Int))), AV.w64 (mkW (clamp (8 : Int) - (64 : Int))), AV.int IntKind.i64 (clamp (clamp (8 : Int))), AV.int IntKind.i64 (2 : Int)], AV.agg [AV.w64 (BitVec.ofInt (64 : Nat) (0 : Int) &&& mkW (0 : Int)), AV.w64 (BitVec.ofInt (64 : Nat) (0 : Int) &&& mkW ((0 : Int) - (64 : Int))), AV.w64 (mkW (0 : Int)), AV.w64 (mkW ((0 : Int) - (64 : Int))), AV.int IntKind.i64 (clamp (0 : Int)), AV.int IntKind.i64 (1 : Int)]] = [AV.agg [AV.w64 (BitVec.ofInt (64 : Nat) (720575940379279360 : Int) &&& mkW (8 : Int) &&& mkW (clamp (8 : Int))), AV.w64 (BitVec.ofInt (64 : Nat) (0 : Int) &&& mkW ((8 : Int) - (64 : Int)) &&& mkW (clamp (8 : Int) - (64 : Int))), AV.w64 (mkW (clamp (8 : Int))), AV.w64 (mkW (clamp (8 : Int) - (64 : Int))), AV.int IntKind.i64 (clamp (clamp (8 : Int))), AV.int IntKind.i64 (2 : Int)], AV.agg [AV.w64 (BitVec.ofInt (64 : Nat) (0 : Int) &&& mkW (0 : Int)), AV.w64 (BitVec.ofInt (64 : Nat) (0 : Int) &&& mkW ((0 : Int) - (64 : Int))), AV.w64 (mkW (0 : Int)), AV.w64 (mkW ((0 : Int) - (64 : Int))), AV.int IntKind.i64 (clamp (0 : Int)), AV.int IntKind.i64 (1 : Int)]] ∧ List.length (deE [AV.agg [AV.w64 (BitVec.ofInt (64 : Nat) (720575940379279360 : Int) &&& mkW (8 : Int) &&& mkW (clamp (8 : Int))), AV.w64 (BitVec.ofInt (64 : Nat) (0 : Int) &&& mkW ((8 : Int) - (64 : Int)) &&& mkW (clamp (8 : Int) - (64 : Int))), AV.w64 (mkW (clamp (8 : Int))), AV.w64 (mkW (clamp (8 : Int) - (64 : Int))), AV.int IntKind.i64 (clamp (clamp (8 : Int))), AV.int IntKind.i64 (2 : Int)], AV.agg [AV.w64 (BitVec.ofInt (64 : Nat) (0 : Int) &&& mkW (0 : Int)), AV.w64 (BitVec.ofInt (64 : Nat) (0 : Int) &&& mkW ((0 : Int) - (64 : Int))), AV.w64 (mkW (0 : Int)), AV.w64 (mkW ((0 : Int) - (64 : Int))), AV.int IntKind.i64 (clamp (0 : Int)), AV.int IntKind.i64 (1 : Int)]]) ≤ (1000000 : Nat) ∧ ((↑(List.length [AV.agg [AV.w64 (BitVec.ofInt (64 : Nat) (0 : Int) &&& mkW (0 : Int)), AV.w64 (BitVec.ofInt (64 : Nat) (0 : Int) &&& mkW ((0 : Int) - (64 : Int))), AV.w64 (mkW (0 : Int)), AV.w64 (mkW ((0 : Int) - (64 : Int))), AV.int IntKind.i64 (clamp (0 : Int)), AV.int IntKind.i64 (1 : Int)]]) : Int) == (1 : Int)) = true ∧ (ofI (1 : Int) (BitVec.ofInt (64 : Nat) (9223372036854775808 : Int)) == (1 : Int)) = true ∧ (mnI (3 : Int) == (8 : Int)) = true ∧ AV.bool (rtI (3 : Int)) = AV.bool true) := by kernel_rfl

theorem awake16_law : ∃ hs, run awake16Cs Try.prog 16 [] [] hs (comesTo (.bool true)) := by
  refine ⟨aw16H, ?_⟩
  rw [awake16_run ()]
  repeat' first
    | apply And.intro
    | intro _
  all_goals first
    | kernel_rfl
    | exact Nat.le_of_ble_eq_true (by kernel_rfl)
    | decide

set_option maxRecDepth 1000000 in
theorem awake16_of (h : ∀ e ∈ g16Cs, SpecOK Try.prog e.1 e.2) : SpecOK Try.prog 16 awakeSpec := by
  obtain ⟨hs, r⟩ := awake16_law
  exact awake_ok (run_ok (l := awake16Cs) (fun e he => (List.mem_append.1 he).elim (k16Cs_ok e) (h e)) mixed noNG) r

noncomputable def p16Cs : List (FuncId × Sx.Spec) := [(17, genSpec [pEn] of5F),
  (20, genSpec [none] one5F),
  (22, genSpec [pEn, none] rtellF),
  (23, genSpec [pRefE, none] rtellF),
  (24, genSpec [none, none] wmatchF),
  (25, genSpec [none] wofF),
  (26, genSpec [none, none] makeF),
  (27, genSpec [none, none] wbothF),
  (28, genSpec [none, none] wsomeF),
  (29, genSpec [none, none] bitF),
  (15, genSpec [none, none] gof16F),
  (10, genSpec [none, none] gbanks16F),
  (19, genSpec [none, none, pRefE] rpart16F)]

theorem p16Cs_ok : ∀ e ∈ p16Cs, SpecOK Try.prog e.1 e.2 := by
  intro e he
  simp only [p16Cs, List.mem_cons, List.not_mem_nil, or_false] at he
  rcases he with rfl | rfl | rfl | rfl | rfl | rfl | rfl | rfl | rfl | rfl | rfl | rfl | rfl
  · exact of5_ok
  · exact one5_ok
  · exact etell_ok
  · exact rtell_ok
  · exact wmatch_ok
  · exact wof_ok
  · exact pmake_ok
  · exact wboth_ok
  · exact wsome_ok
  · exact bit_ok
  · exact rof16_ok
  · exact rbanks16_ok
  · exact rpart16_ok

noncomputable def l16Cs : List (FuncId × Sx.Spec) := (16, awakeSpec) :: (g16Cs ++ p16Cs)

theorem l16Cs_of (h : ∀ e ∈ g16Cs, SpecOK Try.prog e.1 e.2) : ∀ e ∈ l16Cs, SpecOK Try.prog e.1 e.2 := fun e he => by
  unfold l16Cs at he
  rcases List.mem_cons.1 he with rfl | he
  · exact awake16_of h
  · exact (List.mem_append.1 he).elim (h e) (p16Cs_ok e)

end Go.Proofs.Ythfgocpejlhanaa.L1
end

