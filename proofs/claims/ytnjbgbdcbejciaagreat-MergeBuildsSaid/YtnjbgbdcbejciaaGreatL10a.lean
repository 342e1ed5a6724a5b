/-
  Texts in one: L10A L10B L10M L10D.
-/
import Derived.Test.YtnjbgbdcbejciaaGreatMa
import Derived.Test.YtnjbgbdcbejciaaGreatL4I
import Derived.Test.YtnjbgbdcbejciaaGreatL5a
import Derived.Test.YtnjbgbdcbejciaaGreatL9a
import Derived.Test.YtnjbgbdcbejciaaGreatL2S

section
/-
  Layer 10: the document's Simple, Merge, Of.
-/
namespace Go.Proofs.YtnjbgbdcbejciaaGreat.L1
open Go.Sx Go.Sx.M

/- Merge: once, inlined. -/
def meSt (F : List En → List AV) (l : List En) (p : List En × Bool) : St :=
  ⟨[.any, .any, .any, .vsl 1 0 p.1.length, .bool p.2, .any, .any, .any, .any, .any, .any, .any, .any, .any], [some ⟨false, 53, 6, true, l.map enE⟩, some ⟨true, 53, 6, true, F p.1⟩]⟩
def meS1 (F : List En → List AV) (l m : List En) (i : Nat) : St :=
  ⟨[.vsl 1 0 m.length, .any, .any, .any, .int .i64 i, .any, .any, .any, .any, .any, .any, .any, .any, .any, .any, .any, .any, .any, .any, .any, .any, .any, .any, .any, .any, .any, .any, .any, .any, .any, .any, .any, .any, .any, .any, .any, .any, .any, .any, .any, .any, .any, .any, .any, .any, .any, .any, .any, .any, .any, .any, .any, .any, .any, .any, .any, .any, .any, .any, .any, .any, .any, .any, .any, .any, .any, .any, .any, .any, .any, .any, .any, .any, .any, .any, .any, .any, .any, .any, .any, .any, .any, .any, .any, .any, .any, .any, .any, .any, .any, .any, .any, .any, .any, .any, .any, .any, .any, .any, .any, .any, .any, .any], [some ⟨false, 53, 6, true, l.map enE⟩, some ⟨true, 53, 6, true, F m⟩]⟩
def meS2 (F : List En → List AV) (l m : List En) (i k : Nat) : St :=
  ⟨[.vsl 1 0 m.length, .any, .any, .any, .int .i64 i, .int .i64 k, .any, .any, .any, .any, .any, .any, .any, .any, .any, .any, .any, .any, .any, .any, .any, .any, .any, .any, .any, .any, .any, .any, .any, .any, .any, .any, .any, .any, .any, .any, .any, .any, .any, .any, .any, .any, .any, .any, .any, .any, .any, .any, .any, .any, .any, .any, .any, .any, .any, .any, .any, .any, .any, .any, .any, .any, .any, .any, .any, .any, .any, .any, .any, .any, .any, .any, .any, .any, .any, .any, .any, .any, .any, .any, .any, .any, .any, .any, .any, .any, .any, .any, .any, .any, .any, .any, .any, .any, .any, .any, .any, .any, .any, .any, .any, .any, .any], [some ⟨false, 53, 6, true, l.map enE⟩, some ⟨true, 53, 6, true, F m⟩]⟩
def meR (m : List En) (i k n : Nat) : List En := jnE (at' m i) (at' m k) :: exL m i k n
def meS3 (F : List En → List AV) (l m : List En) (i k n : Nat) : St :=
  ⟨[.vsl 1 0 m.length, .any, .any, .any, .int .i64 i, .int .i64 k, .any, .any, .vsl 2 0 (meR m i k n).length, .int .i64 n, .any, .any, .any, .any, .any, .any, .any, .any, .any, .any, .any, .any, .any, .any, .any, .any, .any, .any, .any, .any, .any, .any, .any, .any, .any, .any, .any, .any, .any, .any, .any, .any, .any, .any, .any, .any, .any, .any, .any, .any, .any, .any, .any, .any, .any, .any, .any, .any, .any, .any, .any, .any, .any, .any, .any, .any, .any, .any, .any, .any, .any, .any, .any, .any, .any, .any, .any, .any, .any, .any, .any, .any, .any, .any, .any, .any, .any, .any, .any, .any, .any, .any, .any, .any, .any, .any, .any, .any, .any, .any, .any, .any, .any], [some ⟨false, 53, 6, true, l.map enE⟩, some ⟨true, 53, 6, true, F m⟩, some ⟨true, 53, 6, true, F (meR m i k n)⟩]⟩
/-- What the two words give. -/
def mwE (x y : En) : AV := .agg [.w64 (selW (mgB x.v x.w x.m x.n y.v y.w y.m y.n) (jnE x y).v), .w64 (selW (mgB x.v x.w x.m x.n y.v y.w y.m y.n) (jnE x y).w), .w64 (selW (mgB x.v x.w x.m x.n y.v y.w y.m y.n) (jnE x y).m), .w64 (selW (mgB x.v x.w x.m x.n y.v y.w y.m y.n) (jnE x y).n)]
def meB (x y : En) : Bool := mgB x.v x.w x.m x.n y.v y.w y.m y.n
def meS4 (F : List En → List AV) (l m : List En) (i k : Nat) : St :=
  ⟨[.vsl 1 0 m.length, .any, .any, .any, .int .i64 i, .int .i64 k, .ptr 2 0 0 true, .bool (meB (at' m i) (at' m k)), .any, .any, .any, .any, .any, .any, .any, .any, .any, .any, .any, .any, .any, .any, .any, .any, .any, .any, .any, .any, .any, .any, .any, .any, .any, .any, .any, .any, .any, .any, .any, .any, .any, .any, .any, .any, .any, .any, .any, .any, .any, .any, .any, .any, .any, .any, .any, .any, .any, .any, .any, .any, .any, .any, .any, .any, .any, .any, .any, .any, .any, .any, .any, .any, .any, .any, .any, .any, .any, .any, .any, .any, .any, .any, .any, .any, .any, .any, .any, .any, .any, .any, .any, .any, .any, .any, .any, .any, .any, .any, .any, .any, .any, .any, .any], [some ⟨false, 53, 6, true, l.map enE⟩, some ⟨true, 53, 6, true, F m⟩, some ⟨true, 51, 4, true, [mwE (at' m i) (at' m k)]⟩]⟩
def meX : Modes := ⟨[1, 0, 0, 0, 1, 1, 1, 1, 0, 0, 0, 0, 0, 0, 0, 0, 0, 0, 0, 0, 0, 0, 0, 0, 0, 0, 0, 0, 0, 0, 0, 0, 0, 0, 0, 0, 0, 0, 0, 0, 0, 0, 0, 0, 0, 0, 0, 0, 0, 0, 0, 0, 0, 0, 0, 0, 0, 0, 0, 0, 0, 0, 0, 0, 0, 0, 0, 0, 0, 0, 0, 0, 0, 0, 0, 0, 0, 0, 0, 0, 0, 0, 0, 0, 0, 0, 0, 0, 0, 0, 0, 0, 0, 0, 0, 0, 0, 0, 0, 0, 0, 0, 0], [], [], [], []⟩
def meM : Modes := ⟨[0, 0, 0, 1, 2, 0, 0, 0, 0, 0, 0, 0, 0, 0], [], [], [], []⟩
def meM' : Modes := ⟨[0, 0, 0, 1, 0, 0, 0, 0, 0, 0, 0, 0, 0, 0], [], [], [], []⟩
def meP0 : Modes := ⟨[1, 0, 0, 0, 2, 0, 0, 0, 0, 0, 0, 0, 0, 0, 0, 0, 0, 0, 0, 0, 0, 0, 0, 0, 0, 0, 0, 0, 0, 0, 0, 0, 0, 0, 0, 0, 0, 0, 0, 0, 0, 0, 0, 0, 0, 0, 0, 0, 0, 0, 0, 0, 0, 0, 0, 0, 0, 0, 0, 0, 0, 0, 0, 0, 0, 0, 0, 0, 0, 0, 0, 0, 0, 0, 0, 0, 0, 0, 0, 0, 0, 0, 0, 0, 0, 0, 0, 0, 0, 0, 0, 0, 0, 0, 0, 0, 0, 0, 0, 0, 0, 0, 0], [], [], [], []⟩
def meP : Modes := ⟨[1, 0, 0, 0, 1, 0, 0, 0, 0, 0, 0, 0, 0, 0, 0, 0, 0, 0, 0, 0, 0, 0, 0, 0, 0, 0, 0, 0, 0, 0, 0, 0, 0, 0, 0, 0, 0, 0, 0, 0, 0, 0, 0, 0, 0, 0, 0, 0, 0, 0, 0, 0, 0, 0, 0, 0, 0, 0, 0, 0, 0, 0, 0, 0, 0, 0, 0, 0, 0, 0, 0, 0, 0, 0, 0, 0, 0, 0, 0, 0, 0, 0, 0, 0, 0, 0, 0, 0, 0, 0, 0, 0, 0, 0, 0, 0, 0, 0, 0, 0, 0, 0, 0], [], [], [], []⟩
def meP' : Modes := ⟨[1, 0, 1, 1, 0, 0, 0, 0, 0, 0, 0, 0, 0, 0, 0, 0, 0, 0, 0, 0, 0, 0, 0, 0, 0, 0, 0, 0, 0, 0, 0, 0, 0, 0, 0, 0, 0, 0, 0, 0, 0, 0, 0, 0, 0, 0, 0, 0, 0, 0, 0, 0, 0, 0, 0, 0, 0, 0, 0, 0, 0, 0, 0, 0, 0, 0, 0, 0, 0, 0, 0, 0, 0, 0, 0, 0, 0, 0, 0, 0, 0, 0, 0, 0, 0, 0, 0, 0, 0, 0, 0, 0, 0, 0, 0, 0, 0, 0, 0, 0, 0, 0, 0], [], [], [], []⟩
def meQ0 : Modes := ⟨[1, 0, 0, 0, 1, 2, 0, 0, 0, 0, 0, 0, 0, 0, 0, 0, 0, 0, 0, 0, 0, 0, 0, 0, 0, 0, 0, 0, 0, 0, 0, 0, 0, 0, 0, 0, 0, 0, 0, 0, 0, 0, 0, 0, 0, 0, 0, 0, 0, 0, 0, 0, 0, 0, 0, 0, 0, 0, 0, 0, 0, 0, 0, 0, 0, 0, 0, 0, 0, 0, 0, 0, 0, 0, 0, 0, 0, 0, 0, 0, 0, 0, 0, 0, 0, 0, 0, 0, 0, 0, 0, 0, 0, 0, 0, 0, 0, 0, 0, 0, 0, 0, 0], [], [], [], []⟩
def meQ : Modes := ⟨[1, 0, 0, 0, 1, 1, 0, 0, 0, 0, 0, 0, 0, 0, 0, 0, 0, 0, 0, 0, 0, 0, 0, 0, 0, 0, 0, 0, 0, 0, 0, 0, 0, 0, 0, 0, 0, 0, 0, 0, 0, 0, 0, 0, 0, 0, 0, 0, 0, 0, 0, 0, 0, 0, 0, 0, 0, 0, 0, 0, 0, 0, 0, 0, 0, 0, 0, 0, 0, 0, 0, 0, 0, 0, 0, 0, 0, 0, 0, 0, 0, 0, 0, 0, 0, 0, 0, 0, 0, 0, 0, 0, 0, 0, 0, 0, 0, 0, 0, 0, 0, 0, 0], [], [], [], []⟩
def meQ' : Modes := ⟨[1, 0, 1, 1, 1, 0, 0, 0, 0, 0, 0, 0, 0, 0, 0, 0, 0, 0, 0, 0, 0, 0, 0, 0, 0, 0, 0, 0, 0, 0, 0, 0, 0, 0, 0, 0, 0, 0, 0, 0, 0, 0, 0, 0, 0, 0, 0, 0, 0, 0, 0, 0, 0, 0, 0, 0, 0, 0, 0, 0, 0, 0, 0, 0, 0, 0, 0, 0, 0, 0, 0, 0, 0, 0, 0, 0, 0, 0, 0, 0, 0, 0, 0, 0, 0, 0, 0, 0, 0, 0, 0, 0, 0, 0, 0, 0, 0, 0, 0, 0, 0, 0, 0], [], [], [], []⟩
def meW0 : Modes := ⟨[1, 0, 0, 0, 1, 1, 0, 0, 1, 2, 0, 0, 0, 0, 0, 0, 0, 0, 0, 0, 0, 0, 0, 0, 0, 0, 0, 0, 0, 0, 0, 0, 0, 0, 0, 0, 0, 0, 0, 0, 0, 0, 0, 0, 0, 0, 0, 0, 0, 0, 0, 0, 0, 0, 0, 0, 0, 0, 0, 0, 0, 0, 0, 0, 0, 0, 0, 0, 0, 0, 0, 0, 0, 0, 0, 0, 0, 0, 0, 0, 0, 0, 0, 0, 0, 0, 0, 0, 0, 0, 0, 0, 0, 0, 0, 0, 0, 0, 0, 0, 0, 0, 0], [], [], [8], []⟩
def meW : Modes := ⟨[1, 0, 0, 0, 1, 1, 0, 0, 1, 1, 0, 0, 0, 0, 0, 0, 0, 0, 0, 0, 0, 0, 0, 0, 0, 0, 0, 0, 0, 0, 0, 0, 0, 0, 0, 0, 0, 0, 0, 0, 0, 0, 0, 0, 0, 0, 0, 0, 0, 0, 0, 0, 0, 0, 0, 0, 0, 0, 0, 0, 0, 0, 0, 0, 0, 0, 0, 0, 0, 0, 0, 0, 0, 0, 0, 0, 0, 0, 0, 0, 0, 0, 0, 0, 0, 0, 0, 0, 0, 0, 0, 0, 0, 0, 0, 0, 0, 0, 0, 0, 0, 0, 0], [], [], [], []⟩
def meW' : Modes := ⟨[1, 0, 0, 0, 0, 0, 0, 0, 1, 0, 0, 0, 0, 0, 0, 0, 0, 0, 0, 0, 0, 0, 0, 0, 0, 0, 0, 0, 0, 0, 0, 0, 0, 0, 0, 0, 0, 0, 0, 0, 0, 0, 0, 0, 0, 0, 0, 0, 0, 0, 0, 0, 0, 0, 0, 0, 0, 0, 0, 0, 0, 0, 0, 0, 0, 0, 0, 0, 0, 0, 0, 0, 0, 0, 0, 0, 0, 0, 0, 0, 0, 0, 0, 0, 0, 0, 0, 0, 0, 0, 0, 0, 0, 0, 0, 0, 0, 0, 0, 0, 0, 0, 0], [], [], [], []⟩
def meI (l : List En) (p : List En × Bool) : Prop := p.1.length ≤ l.length ∧ (p.2 = true → mrG p.1.length p.1 = mrE l) ∧ (p.2 = false → p.1 = mrE l)
def meI1 (m : List En) (i : Nat) : Prop := i ≤ m.length ∧ ∀ a b, a < i → a < b → b < m.length → mgE (at' m a) (at' m b) = false
def meI2 (m : List En) (i k : Nat) : Prop := i < k ∧ k ≤ m.length ∧ ∀ b, i < b → b < k → mgE (at' m i) (at' m b) = false
def meH3 (F : List En → List AV) (l m : List En) (i k : Nat) : List Hint := [.dy, .cell (.int .i64 (at' m i).len), .dy, .cell (.int .i64 (at' m i).act),
  .linv _ 0 (meS3 F l m i k) (fun n => n ≤ m.length) (fun n => m.length + 1 - n) meW0 meW meW' (fun n => [.nm (F (srE (meR m i k n)))]) fun n =>
    [.fork [.fork [.fork [.dy, .cell (enE (at' m n)), .rows (F (meR m i k (n + 1))), .nw] [.nw]] [.nw]] []]]
def meH2 (F : List En → List AV) (l m : List En) (i : Nat) : List Hint := [.linv _ (i + 1) (meS2 F l m i) (meI2 m i) (fun k => m.length + 1 - k) meQ0 meQ meQ' (fun _ => [.nw]) fun k =>
    [.fork [.mrg true Unit (fun _ => meS4 F l m i k) (fun _ => True) meX [.dy, .cell (wdE (at' m i)), .dy, .cell (wdE (at' m k))] fun _ => [.fork [.nw] [.dy, .cell (.int .i64 (at' m i).len), .dy, .cell (.int .i64 (at' m k).len), .fork [.nw]
      [.dy, .cell (.int .i64 (at' m i).act), .dy, .cell (.int .i64 (at' m k).act), .fork [.nw] (meH3 F l m i k)]]]] []]]
def meH1 (F : List En → List AV) (l m : List En) : List Hint := [.linv _ 0 (meS1 F l m) (meI1 m) (fun i => m.length + 1 - i) meP0 meP meP' (fun _ => []) fun i => [.fork (.nw :: meH2 F l m i) []]]
def meH (F : List En → List AV) (l : List En) : List Hint := [.nm (F (srE l)), .linv _ (srE l, true) (meSt F l) (meI l) (fun p => 2 * p.1.length + (if p.2 then 1 else 0)) meM meM meM' (fun _ => []) fun p => [.fork (meH1 F l p.1) []]]

def rsimple10F : List Arg → (Res → Prop) → Prop
  | [.row r_l], R => r_l = (deE r_l).map enE ∧ (deE r_l).length ≤ 1000000 ∧ R (.v (.bool (siE (deE r_l))))
  | _, _ => False

def rmerge10F : List Arg → (Res → Prop) → Prop
  | [.row r_l], R => r_l = (deE r_l).map enE ∧ (deE r_l).length ≤ 1000000 ∧ R (.vrow 53 6 ((mrE (deE r_l)).map enE))
  | _, _ => False

noncomputable def rmerge10Cs : List (FuncId × Sx.Spec) := [(22, genSpec [pRefE] rsortF),
  (74, genSpec [none, none] wmergeF)]

theorem rmerge10_run (l : List En) (F : List En → List AV) (es : List AV) : run rmerge10Cs Tryz.prog 21 [.vsl 0 0 (l.map enE).length] [some ⟨false, (pRefE.getD (0, 0)).1, (pRefE.getD (0, 0)).2, true, (l.map enE)⟩] (meH F l) (yields (.vrow 53 6 es)) =
    (0 + List.length (List.map enE l) ≤ List.length (List.map enE l) ∧ List.take (List.length (List.map enE l)) (List.drop 0 (List.map enE l)) = List.map enE (deE (List.take (List.length (List.map enE l)) (List.drop 0 (List.map enE l)))) ∧ List.length (deE (List.take (List.length (List.map enE l)) (List.drop 0 (List.map enE l)))) ≤ 1000000 ∧ (List.map enE (srE (deE (List.take (List.length (List.map enE l)) (List.drop 0 (List.map enE l))))) = F (srE l) ∧ List.length (List.map enE (srE (deE (List.take (List.length (List.map enE l)) (List.drop 0 (List.map enE l)))))) = List.length (F (srE l))) ∧ (St.mk [.any, .any, .any, AV.vsl (0 + 1) 0 (List.length (F (srE l))), AV.bool true, .any, .any, .any, .any, .any, .any, .any, .any, .any] [some (Blk.mk false (53 : TypeId) 6 true (List.map enE l)), some (Blk.mk true (53 : TypeId) 6 true (F (srE l)))] = meSt F l (srE l, true) ∧ meI l (srE l, true)) ∧ ∀ (p : List En × Bool), meI l p → (p.2 = true → (St.mk [AV.vsl (0 + 1) 0 (List.length p.1), .any, .any, .any, AV.int IntKind.i64 0, .any, .any, .any, .any, .any, .any, .any, .any, .any, .any, .any, .any, .any, .any, .any, .any, .any, .any, .any, .any, .any, .any, .any, .any, .any, .any, .any, .any, .any, .any, .any, .any, .any, .any, .any, .any, .any, .any, .any, .any, .any, .any, .any, .any, .any, .any, .any, .any, .any, .any, .any, .any, .any, .any, .any, .any, .any, .any, .any, .any, .any, .any, .any, .any, .any, .any, .any, .any, .any, .any, .any, .any, .any, .any, .any, .any, .any, .any, .any, .any, .any, .any, .any, .any, .any, .any, .any, .any, .any, .any, .any, .any, .any, .any, .any, .any, .any, .any] [some (Blk.mk false (53 : TypeId) 6 true (List.map enE l)), some (Blk.mk true (53 : TypeId) 6 true (F p.1))] = meS1 F l p.1 0 ∧ meI1 p.1 0) ∧ ∀ (p_1 : Nat), meI1 p.1 p_1 → (Decidable.decide ((↑p_1 : Int) < (↑(List.length p.1) : Int)) = true → inRange IntKind.i64 ((↑p_1 : Int) + 1) ∧ (St.mk [AV.vsl (0 + 1) 0 (List.length p.1), .any, .any, .any, AV.int IntKind.i64 (↑p_1 : Int), AV.int IntKind.i64 ((↑p_1 : Int) + 1), .any, .any, .any, .any, .any, .any, .any, .any, .any, .any, .any, .any, .any, .any, .any, .any, .any, .any, .any, .any, .any, .any, .any, .any, .any, .any, .any, .any, .any, .any, .any, .any, .any, .any, .any, .any, .any, .any, .any, .any, .any, .any, .any, .any, .any, .any, .any, .any, .any, .any, .any, .any, .any, .any, .any, .any, .any, .any, .any, .any, .any, .any, .any, .any, .any, .any, .any, .any, .any, .any, .any, .any, .any, .any, .any, .any, .any, .any, .any, .any, .any, .any, .any, .any, .any, .any, .any, .any, .any, .any, .any, .any, .any, .any, .any, .any, .any] [some (Blk.mk false (53 : TypeId) 6 true (List.map enE l)), some (Blk.mk true (53 : TypeId) 6 true (F p.1))] = meS2 F l p.1 p_1 (p_1 + 1) ∧ meI2 p.1 p_1 (p_1 + 1)) ∧ ∀ (p_2 : Nat), meI2 p.1 p_1 p_2 → (Decidable.decide ((↑p_2 : Int) < (↑(List.length p.1) : Int)) = true → ((0 ≤ (↑p_1 : Int) ∧ (↑p_1 : Int) < (↑(List.length p.1) : Int)) ∧ Blk.read Proofs.Tryz.prog (Blk.mk true (53 : TypeId) 6 true (F p.1)) 51 (0 + Int.toNat (↑p_1 : Int)) (0 + 0) = some (AV.agg [AV.w64 (at' (Prod.fst p) p_1).1, AV.w64 (at' (Prod.fst p) p_1).2, AV.w64 (at' (Prod.fst p) p_1).3, AV.w64 (at' (Prod.fst p) p_1).4]) ∧ (0 ≤ (↑p_2 : Int) ∧ (↑p_2 : Int) < (↑(List.length p.1) : Int)) ∧ Blk.read Proofs.Tryz.prog (Blk.mk true (53 : TypeId) 6 true (F p.1)) 51 (0 + Int.toNat (↑p_2 : Int)) (0 + 0) = some (AV.agg [AV.w64 (at' (Prod.fst p) p_2).1, AV.w64 (at' (Prod.fst p) p_2).2, AV.w64 (at' (Prod.fst p) p_2).3, AV.w64 (at' (Prod.fst p) p_2).4]) ∧ ((∃ (_ : Unit), St.mk [AV.vsl (0 + 1) 0 (List.length p.1), .any, .any, .any, AV.int IntKind.i64 (↑p_1 : Int), AV.int IntKind.i64 (↑p_2 : Int), AV.ptr (0 + 1 + 1) 0 0 true, AV.bool (mgB (at' (Prod.fst p) p_1).1 (at' (Prod.fst p) p_1).2 (at' (Prod.fst p) p_1).3 (at' (Prod.fst p) p_1).4 (at' (Prod.fst p) p_2).1 (at' (Prod.fst p) p_2).2 (at' (Prod.fst p) p_2).3 (at' (Prod.fst p) p_2).4), .any, .any, .any, .any, .any, .any, .any, .any, .any, .any, .any, .any, .any, .any, .any, .any, .any, .any, .any, .any, .any, .any, .any, .any, .any, .any, .any, .any, .any, .any, .any, .any, .any, .any, .any, .any, .any, .any, .any, .any, .any, .any, .any, .any, .any, .any, .any, .any, .any, .any, .any, .any, .any, .any, .any, .any, .any, .any, .any, .any, .any, .any, .any, .any, .any, .any, .any, .any, .any, .any, .any, .any, .any, .any, .any, .any, .any, .any, .any, .any, .any, .any, .any, .any, .any, .any, .any, .any, .any, .any, .any, .any, .any, .any, .any] [some (Blk.mk false (53 : TypeId) 6 true (List.map enE l)), some (Blk.mk true (53 : TypeId) 6 true (F p.1)), some (Blk.mk true (nat_lit 51) 4 true [AV.agg [AV.w64 (selW (mgB (at' (Prod.fst p) p_1).1 (at' (Prod.fst p) p_1).2 (at' (Prod.fst p) p_1).3 (at' (Prod.fst p) p_1).4 (at' (Prod.fst p) p_2).1 (at' (Prod.fst p) p_2).2 (at' (Prod.fst p) p_2).3 (at' (Prod.fst p) p_2).4) ((at' (Prod.fst p) p_1).1 &&& ((at' (Prod.fst p) p_1).3 ^^^ ((at' (Prod.fst p) p_1).1 ^^^ (at' (Prod.fst p) p_2).1) &&& (at' (Prod.fst p) p_1).3))), AV.w64 (selW (mgB (at' (Prod.fst p) p_1).1 (at' (Prod.fst p) p_1).2 (at' (Prod.fst p) p_1).3 (at' (Prod.fst p) p_1).4 (at' (Prod.fst p) p_2).1 (at' (Prod.fst p) p_2).2 (at' (Prod.fst p) p_2).3 (at' (Prod.fst p) p_2).4) ((at' (Prod.fst p) p_1).2 &&& ((at' (Prod.fst p) p_1).4 ^^^ ((at' (Prod.fst p) p_1).2 ^^^ (at' (Prod.fst p) p_2).2) &&& (at' (Prod.fst p) p_1).4))), AV.w64 (selW (mgB (at' (Prod.fst p) p_1).1 (at' (Prod.fst p) p_1).2 (at' (Prod.fst p) p_1).3 (at' (Prod.fst p) p_1).4 (at' (Prod.fst p) p_2).1 (at' (Prod.fst p) p_2).2 (at' (Prod.fst p) p_2).3 (at' (Prod.fst p) p_2).4) ((at' (Prod.fst p) p_1).3 ^^^ ((at' (Prod.fst p) p_1).1 ^^^ (at' (Prod.fst p) p_2).1) &&& (at' (Prod.fst p) p_1).3)), AV.w64 (selW (mgB (at' (Prod.fst p) p_1).1 (at' (Prod.fst p) p_1).2 (at' (Prod.fst p) p_1).3 (at' (Prod.fst p) p_1).4 (at' (Prod.fst p) p_2).1 (at' (Prod.fst p) p_2).2 (at' (Prod.fst p) p_2).3 (at' (Prod.fst p) p_2).4) ((at' (Prod.fst p) p_1).4 ^^^ ((at' (Prod.fst p) p_1).2 ^^^ (at' (Prod.fst p) p_2).2) &&& (at' (Prod.fst p) p_1).4))]])] = St.mk [AV.vsl 1 0 (List.length p.1), .any, .any, .any, AV.int IntKind.i64 (↑p_1 : Int), AV.int IntKind.i64 (↑p_2 : Int), AV.ptr 2 0 0 true, AV.bool (meB (at' p.1 p_1) (at' p.1 p_2)), .any, .any, .any, .any, .any, .any, .any, .any, .any, .any, .any, .any, .any, .any, .any, .any, .any, .any, .any, .any, .any, .any, .any, .any, .any, .any, .any, .any, .any, .any, .any, .any, .any, .any, .any, .any, .any, .any, .any, .any, .any, .any, .any, .any, .any, .any, .any, .any, .any, .any, .any, .any, .any, .any, .any, .any, .any, .any, .any, .any, .any, .any, .any, .any, .any, .any, .any, .any, .any, .any, .any, .any, .any, .any, .any, .any, .any, .any, .any, .any, .any, .any, .any, .any, .any, .any, .any, .any, .any, .any, .any, .any, .any, .any, .any] [some (Blk.mk false (53 : TypeId) 6 true (List.map enE l)), some (Blk.mk true (53 : TypeId) 6 true (F p.1)), some (Blk.mk true (51 : TypeId) 4 true [mwE (at' p.1 p_1) (at' p.1 p_2)])] ∧ True) ∧ (∃ (_ : Unit), St.mk [AV.vsl (0 + 1) 0 (List.length p.1), .any, .any, .any, AV.int IntKind.i64 (↑p_1 : Int), AV.int IntKind.i64 (↑p_2 : Int), AV.ptr (0 + 1 + 1) 0 0 true, AV.bool (mgB (at' (Prod.fst p) p_1).1 (at' (Prod.fst p) p_1).2 (at' (Prod.fst p) p_1).3 (at' (Prod.fst p) p_1).4 (at' (Prod.fst p) p_2).1 (at' (Prod.fst p) p_2).2 (at' (Prod.fst p) p_2).3 (at' (Prod.fst p) p_2).4), .any, .any, .any, .any, .any, .any, .any, .any, .any, .any, .any, .any, .any, .any, .any, .any, .any, .any, .any, .any, .any, .any, .any, .any, .any, .any, .any, .any, .any, .any, .any, .any, .any, .any, .any, .any, .any, .any, .any, .any, .any, .any, .any, .any, .any, .any, .any, .any, .any, .any, .any, .any, .any, .any, .any, .any, .any, .any, .any, .any, .any, .any, .any, .any, .any, .any, .any, .any, .any, .any, .any, .any, .any, .any, .any, .any, .any, .any, .any, .any, .any, .any, .any, .any, .any, .any, .any, .any, .any, .any, .any, .any, .any, .any, .any] [some (Blk.mk false (53 : TypeId) 6 true (List.map enE l)), some (Blk.mk true (53 : TypeId) 6 true (F p.1)), some (Blk.mk true (nat_lit 51) 4 true [AV.agg [AV.w64 (selW (mgB (at' (Prod.fst p) p_1).1 (at' (Prod.fst p) p_1).2 (at' (Prod.fst p) p_1).3 (at' (Prod.fst p) p_1).4 (at' (Prod.fst p) p_2).1 (at' (Prod.fst p) p_2).2 (at' (Prod.fst p) p_2).3 (at' (Prod.fst p) p_2).4) ((at' (Prod.fst p) p_1).1 &&& ((at' (Prod.fst p) p_1).3 ^^^ ((at' (Prod.fst p) p_1).1 ^^^ (at' (Prod.fst p) p_2).1) &&& (at' (Prod.fst p) p_1).3))), AV.w64 (selW (mgB (at' (Prod.fst p) p_1).1 (at' (Prod.fst p) p_1).2 (at' (Prod.fst p) p_1).3 (at' (Prod.fst p) p_1).4 (at' (Prod.fst p) p_2).1 (at' (Prod.fst p) p_2).2 (at' (Prod.fst p) p_2).3 (at' (Prod.fst p) p_2).4) ((at' (Prod.fst p) p_1).2 &&& ((at' (Prod.fst p) p_1).4 ^^^ ((at' (Prod.fst p) p_1).2 ^^^ (at' (Prod.fst p) p_2).2) &&& (at' (Prod.fst p) p_1).4))), AV.w64 (selW (mgB (at' (Prod.fst p) p_1).1 (at' (Prod.fst p) p_1).2 (at' (Prod.fst p) p_1).3 (at' (Prod.fst p) p_1).4 (at' (Prod.fst p) p_2).1 (at' (Prod.fst p) p_2).2 (at' (Prod.fst p) p_2).3 (at' (Prod.fst p) p_2).4) ((at' (Prod.fst p) p_1).3 ^^^ ((at' (Prod.fst p) p_1).1 ^^^ (at' (Prod.fst p) p_2).1) &&& (at' (Prod.fst p) p_1).3)), AV.w64 (selW (mgB (at' (Prod.fst p) p_1).1 (at' (Prod.fst p) p_1).2 (at' (Prod.fst p) p_1).3 (at' (Prod.fst p) p_1).4 (at' (Prod.fst p) p_2).1 (at' (Prod.fst p) p_2).2 (at' (Prod.fst p) p_2).3 (at' (Prod.fst p) p_2).4) ((at' (Prod.fst p) p_1).4 ^^^ ((at' (Prod.fst p) p_1).2 ^^^ (at' (Prod.fst p) p_2).2) &&& (at' (Prod.fst p) p_1).4))]])] = St.mk [AV.vsl 1 0 (List.length p.1), .any, .any, .any, AV.int IntKind.i64 (↑p_1 : Int), AV.int IntKind.i64 (↑p_2 : Int), AV.ptr 2 0 0 true, AV.bool (meB (at' p.1 p_1) (at' p.1 p_2)), .any, .any, .any, .any, .any, .any, .any, .any, .any, .any, .any, .any, .any, .any, .any, .any, .any, .any, .any, .any, .any, .any, .any, .any, .any, .any, .any, .any, .any, .any, .any, .any, .any, .any, .any, .any, .any, .any, .any, .any, .any, .any, .any, .any, .any, .any, .any, .any, .any, .any, .any, .any, .any, .any, .any, .any, .any, .any, .any, .any, .any, .any, .any, .any, .any, .any, .any, .any, .any, .any, .any, .any, .any, .any, .any, .any, .any, .any, .any, .any, .any, .any, .any, .any, .any, .any, .any, .any, .any, .any, .any, .any, .any, .any, .any] [some (Blk.mk false (53 : TypeId) 6 true (List.map enE l)), some (Blk.mk true (53 : TypeId) 6 true (F p.1)), some (Blk.mk true (51 : TypeId) 4 true [mwE (at' p.1 p_1) (at' p.1 p_2)])] ∧ True) ∧ ∃ (_ : Unit), St.mk [AV.vsl (0 + 1) 0 (List.length p.1), .any, .any, .any, AV.int IntKind.i64 (↑p_1 : Int), AV.int IntKind.i64 (↑p_2 : Int), AV.ptr (0 + 1 + 1) 0 0 true, AV.bool (mgB (at' (Prod.fst p) p_1).1 (at' (Prod.fst p) p_1).2 (at' (Prod.fst p) p_1).3 (at' (Prod.fst p) p_1).4 (at' (Prod.fst p) p_2).1 (at' (Prod.fst p) p_2).2 (at' (Prod.fst p) p_2).3 (at' (Prod.fst p) p_2).4), .any, .any, .any, .any, .any, .any, .any, .any, .any, .any, .any, .any, .any, .any, .any, .any, .any, .any, .any, .any, .any, .any, .any, .any, .any, .any, .any, .any, .any, .any, .any, .any, .any, .any, .any, .any, .any, .any, .any, .any, .any, .any, .any, .any, .any, .any, .any, .any, .any, .any, .any, .any, .any, .any, .any, .any, .any, .any, .any, .any, .any, .any, .any, .any, .any, .any, .any, .any, .any, .any, .any, .any, .any, .any, .any, .any, .any, .any, .any, .any, .any, .any, .any, .any, .any, .any, .any, .any, .any, .any, .any, .any, .any, .any, .any] [some (Blk.mk false (53 : TypeId) 6 true (List.map enE l)), some (Blk.mk true (53 : TypeId) 6 true (F p.1)), some (Blk.mk true (nat_lit 51) 4 true [AV.agg [AV.w64 (selW (mgB (at' (Prod.fst p) p_1).1 (at' (Prod.fst p) p_1).2 (at' (Prod.fst p) p_1).3 (at' (Prod.fst p) p_1).4 (at' (Prod.fst p) p_2).1 (at' (Prod.fst p) p_2).2 (at' (Prod.fst p) p_2).3 (at' (Prod.fst p) p_2).4) ((at' (Prod.fst p) p_1).1 &&& ((at' (Prod.fst p) p_1).3 ^^^ ((at' (Prod.fst p) p_1).1 ^^^ (at' (Prod.fst p) p_2).1) &&& (at' (Prod.fst p) p_1).3))), AV.w64 (selW (mgB (at' (Prod.fst p) p_1).1 (at' (Prod.fst p) p_1).2 (at' (Prod.fst p) p_1).3 (at' (Prod.fst p) p_1).4 (at' (Prod.fst p) p_2).1 (at' (Prod.fst p) p_2).2 (at' (Prod.fst p) p_2).3 (at' (Prod.fst p) p_2).4) ((at' (Prod.fst p) p_1).2 &&& ((at' (Prod.fst p) p_1).4 ^^^ ((at' (Prod.fst p) p_1).2 ^^^ (at' (Prod.fst p) p_2).2) &&& (at' (Prod.fst p) p_1).4))), AV.w64 (selW (mgB (at' (Prod.fst p) p_1).1 (at' (Prod.fst p) p_1).2 (at' (Prod.fst p) p_1).3 (at' (Prod.fst p) p_1).4 (at' (Prod.fst p) p_2).1 (at' (Prod.fst p) p_2).2 (at' (Prod.fst p) p_2).3 (at' (Prod.fst p) p_2).4) ((at' (Prod.fst p) p_1).3 ^^^ ((at' (Prod.fst p) p_1).1 ^^^ (at' (Prod.fst p) p_2).1) &&& (at' (Prod.fst p) p_1).3)), AV.w64 (selW (mgB (at' (Prod.fst p) p_1).1 (at' (Prod.fst p) p_1).2 (at' (Prod.fst p) p_1).3 (at' (Prod.fst p) p_1).4 (at' (Prod.fst p) p_2).1 (at' (Prod.fst p) p_2).2 (at' (Prod.fst p) p_2).3 (at' (Prod.fst p) p_2).4) ((at' (Prod.fst p) p_1).4 ^^^ ((at' (Prod.fst p) p_1).2 ^^^ (at' (Prod.fst p) p_2).2) &&& (at' (Prod.fst p) p_1).4))]])] = St.mk [AV.vsl 1 0 (List.length p.1), .any, .any, .any, AV.int IntKind.i64 (↑p_1 : Int), AV.int IntKind.i64 (↑p_2 : Int), AV.ptr 2 0 0 true, AV.bool (meB (at' p.1 p_1) (at' p.1 p_2)), .any, .any, .any, .any, .any, .any, .any, .any, .any, .any, .any, .any, .any, .any, .any, .any, .any, .any, .any, .any, .any, .any, .any, .any, .any, .any, .any, .any, .any, .any, .any, .any, .any, .any, .any, .any, .any, .any, .any, .any, .any, .any, .any, .any, .any, .any, .any, .any, .any, .any, .any, .any, .any, .any, .any, .any, .any, .any, .any, .any, .any, .any, .any, .any, .any, .any, .any, .any, .any, .any, .any, .any, .any, .any, .any, .any, .any, .any, .any, .any, .any, .any, .any, .any, .any, .any, .any, .any, .any, .any, .any, .any, .any, .any, .any] [some (Blk.mk false (53 : TypeId) 6 true (List.map enE l)), some (Blk.mk true (53 : TypeId) 6 true (F p.1)), some (Blk.mk true (51 : TypeId) 4 true [mwE (at' p.1 p_1) (at' p.1 p_2)])] ∧ True) ∧ (∃ (_ : Unit), St.mk [AV.vsl (0 + 1) 0 (List.length p.1), .any, .any, .any, AV.int IntKind.i64 (↑p_1 : Int), AV.int IntKind.i64 (↑p_2 : Int), AV.ptr (0 + 1 + 1) 0 0 true, AV.bool (mgB (at' (Prod.fst p) p_1).1 (at' (Prod.fst p) p_1).2 (at' (Prod.fst p) p_1).3 (at' (Prod.fst p) p_1).4 (at' (Prod.fst p) p_2).1 (at' (Prod.fst p) p_2).2 (at' (Prod.fst p) p_2).3 (at' (Prod.fst p) p_2).4), .any, .any, .any, .any, .any, .any, .any, .any, .any, .any, .any, .any, .any, .any, .any, .any, .any, .any, .any, .any, .any, .any, .any, .any, .any, .any, .any, .any, .any, .any, .any, .any, .any, .any, .any, .any, .any, .any, .any, .any, .any, .any, .any, .any, .any, .any, .any, .any, .any, .any, .any, .any, .any, .any, .any, .any, .any, .any, .any, .any, .any, .any, .any, .any, .any, .any, .any, .any, .any, .any, .any, .any, .any, .any, .any, .any, .any, .any, .any, .any, .any, .any, .any, .any, .any, .any, .any, .any, .any, .any, .any, .any, .any, .any, .any] [some (Blk.mk false (53 : TypeId) 6 true (List.map enE l)), some (Blk.mk true (53 : TypeId) 6 true (F p.1)), some (Blk.mk true (nat_lit 51) 4 true [AV.agg [AV.w64 (selW (mgB (at' (Prod.fst p) p_1).1 (at' (Prod.fst p) p_1).2 (at' (Prod.fst p) p_1).3 (at' (Prod.fst p) p_1).4 (at' (Prod.fst p) p_2).1 (at' (Prod.fst p) p_2).2 (at' (Prod.fst p) p_2).3 (at' (Prod.fst p) p_2).4) ((at' (Prod.fst p) p_1).1 &&& ((at' (Prod.fst p) p_1).3 ^^^ ((at' (Prod.fst p) p_1).1 ^^^ (at' (Prod.fst p) p_2).1) &&& (at' (Prod.fst p) p_1).3))), AV.w64 (selW (mgB (at' (Prod.fst p) p_1).1 (at' (Prod.fst p) p_1).2 (at' (Prod.fst p) p_1).3 (at' (Prod.fst p) p_1).4 (at' (Prod.fst p) p_2).1 (at' (Prod.fst p) p_2).2 (at' (Prod.fst p) p_2).3 (at' (Prod.fst p) p_2).4) ((at' (Prod.fst p) p_1).2 &&& ((at' (Prod.fst p) p_1).4 ^^^ ((at' (Prod.fst p) p_1).2 ^^^ (at' (Prod.fst p) p_2).2) &&& (at' (Prod.fst p) p_1).4))), AV.w64 (selW (mgB (at' (Prod.fst p) p_1).1 (at' (Prod.fst p) p_1).2 (at' (Prod.fst p) p_1).3 (at' (Prod.fst p) p_1).4 (at' (Prod.fst p) p_2).1 (at' (Prod.fst p) p_2).2 (at' (Prod.fst p) p_2).3 (at' (Prod.fst p) p_2).4) ((at' (Prod.fst p) p_1).3 ^^^ ((at' (Prod.fst p) p_1).1 ^^^ (at' (Prod.fst p) p_2).1) &&& (at' (Prod.fst p) p_1).3)), AV.w64 (selW (mgB (at' (Prod.fst p) p_1).1 (at' (Prod.fst p) p_1).2 (at' (Prod.fst p) p_1).3 (at' (Prod.fst p) p_1).4 (at' (Prod.fst p) p_2).1 (at' (Prod.fst p) p_2).2 (at' (Prod.fst p) p_2).3 (at' (Prod.fst p) p_2).4) ((at' (Prod.fst p) p_1).4 ^^^ ((at' (Prod.fst p) p_1).2 ^^^ (at' (Prod.fst p) p_2).2) &&& (at' (Prod.fst p) p_1).4))]])] = St.mk [AV.vsl 1 0 (List.length p.1), .any, .any, .any, AV.int IntKind.i64 (↑p_1 : Int), AV.int IntKind.i64 (↑p_2 : Int), AV.ptr 2 0 0 true, AV.bool (meB (at' p.1 p_1) (at' p.1 p_2)), .any, .any, .any, .any, .any, .any, .any, .any, .any, .any, .any, .any, .any, .any, .any, .any, .any, .any, .any, .any, .any, .any, .any, .any, .any, .any, .any, .any, .any, .any, .any, .any, .any, .any, .any, .any, .any, .any, .any, .any, .any, .any, .any, .any, .any, .any, .any, .any, .any, .any, .any, .any, .any, .any, .any, .any, .any, .any, .any, .any, .any, .any, .any, .any, .any, .any, .any, .any, .any, .any, .any, .any, .any, .any, .any, .any, .any, .any, .any, .any, .any, .any, .any, .any, .any, .any, .any, .any, .any, .any, .any, .any, .any, .any, .any] [some (Blk.mk false (53 : TypeId) 6 true (List.map enE l)), some (Blk.mk true (53 : TypeId) 6 true (F p.1)), some (Blk.mk true (51 : TypeId) 4 true [mwE (at' p.1 p_1) (at' p.1 p_2)])] ∧ True) ∧ ∃ (_ : Unit), St.mk [AV.vsl (0 + 1) 0 (List.length p.1), .any, .any, .any, AV.int IntKind.i64 (↑p_1 : Int), AV.int IntKind.i64 (↑p_2 : Int), AV.ptr (0 + 1 + 1) 0 0 true, AV.bool (mgB (at' (Prod.fst p) p_1).1 (at' (Prod.fst p) p_1).2 (at' (Prod.fst p) p_1).3 (at' (Prod.fst p) p_1).4 (at' (Prod.fst p) p_2).1 (at' (Prod.fst p) p_2).2 (at' (Prod.fst p) p_2).3 (at' (Prod.fst p) p_2).4), .any, .any, .any, .any, .any, .any, .any, .any, .any, .any, .any, .any, .any, .any, .any, .any, .any, .any, .any, .any, .any, .any, .any, .any, .any, .any, .any, .any, .any, .any, .any, .any, .any, .any, .any, .any, .any, .any, .any, .any, .any, .any, .any, .any, .any, .any, .any, .any, .any, .any, .any, .any, .any, .any, .any, .any, .any, .any, .any, .any, .any, .any, .any, .any, .any, .any, .any, .any, .any, .any, .any, .any, .any, .any, .any, .any, .any, .any, .any, .any, .any, .any, .any, .any, .any, .any, .any, .any, .any, .any, .any, .any, .any, .any, .any] [some (Blk.mk false (53 : TypeId) 6 true (List.map enE l)), some (Blk.mk true (53 : TypeId) 6 true (F p.1)), some (Blk.mk true (nat_lit 51) 4 true [AV.agg [AV.w64 (selW (mgB (at' (Prod.fst p) p_1).1 (at' (Prod.fst p) p_1).2 (at' (Prod.fst p) p_1).3 (at' (Prod.fst p) p_1).4 (at' (Prod.fst p) p_2).1 (at' (Prod.fst p) p_2).2 (at' (Prod.fst p) p_2).3 (at' (Prod.fst p) p_2).4) ((at' (Prod.fst p) p_1).1 &&& ((at' (Prod.fst p) p_1).3 ^^^ ((at' (Prod.fst p) p_1).1 ^^^ (at' (Prod.fst p) p_2).1) &&& (at' (Prod.fst p) p_1).3))), AV.w64 (selW (mgB (at' (Prod.fst p) p_1).1 (at' (Prod.fst p) p_1).2 (at' (Prod.fst p) p_1).3 (at' (Prod.fst p) p_1).4 (at' (Prod.fst p) p_2).1 (at' (Prod.fst p) p_2).2 (at' (Prod.fst p) p_2).3 (at' (Prod.fst p) p_2).4) ((at' (Prod.fst p) p_1).2 &&& ((at' (Prod.fst p) p_1).4 ^^^ ((at' (Prod.fst p) p_1).2 ^^^ (at' (Prod.fst p) p_2).2) &&& (at' (Prod.fst p) p_1).4))), AV.w64 (selW (mgB (at' (Prod.fst p) p_1).1 (at' (Prod.fst p) p_1).2 (at' (Prod.fst p) p_1).3 (at' (Prod.fst p) p_1).4 (at' (Prod.fst p) p_2).1 (at' (Prod.fst p) p_2).2 (at' (Prod.fst p) p_2).3 (at' (Prod.fst p) p_2).4) ((at' (Prod.fst p) p_1).3 ^^^ ((at' (Prod.fst p) p_1).1 ^^^ (at' (Prod.fst p) p_2).1) &&& (at' (Prod.fst p) p_1).3)), AV.w64 (selW (mgB (at' (Prod.fst p) p_1).1 (at' (Prod.fst p) p_1).2 (at' (Prod.fst p) p_1).3 (at' (Prod.fst p) p_1).4 (at' (Prod.fst p) p_2).1 (at' (Prod.fst p) p_2).2 (at' (Prod.fst p) p_2).3 (at' (Prod.fst p) p_2).4) ((at' (Prod.fst p) p_1).4 ^^^ ((at' (Prod.fst p) p_1).2 ^^^ (at' (Prod.fst p) p_2).2) &&& (at' (Prod.fst p) p_1).4))]])] = St.mk [AV.vsl 1 0 (List.length p.1), .any, .any, .any, AV.int IntKind.i64 (↑p_1 : Int), AV.int IntKind.i64 (↑p_2 : Int), AV.ptr 2 0 0 true, AV.bool (meB (at' p.1 p_1) (at' p.1 p_2)), .any, .any, .any, .any, .any, .any, .any, .any, .any, .any, .any, .any, .any, .any, .any, .any, .any, .any, .any, .any, .any, .any, .any, .any, .any, .any, .any, .any, .any, .any, .any, .any, .any, .any, .any, .any, .any, .any, .any, .any, .any, .any, .any, .any, .any, .any, .any, .any, .any, .any, .any, .any, .any, .any, .any, .any, .any, .any, .any, .any, .any, .any, .any, .any, .any, .any, .any, .any, .any, .any, .any, .any, .any, .any, .any, .any, .any, .any, .any, .any, .any, .any, .any, .any, .any, .any, .any, .any, .any, .any, .any, .any, .any, .any, .any] [some (Blk.mk false (53 : TypeId) 6 true (List.map enE l)), some (Blk.mk true (53 : TypeId) 6 true (F p.1)), some (Blk.mk true (51 : TypeId) 4 true [mwE (at' p.1 p_1) (at' p.1 p_2)])] ∧ True) ∧ ∀ (_ : Unit), True → ((!meB (at' p.1 p_1) (at' p.1 p_2)) = true → inRange IntKind.i64 ((↑p_2 : Int) + 1) ∧ ∃ (p' : Nat), St.mk [AV.vsl (0 + 1) 0 (List.length p.1), .any, .any, .any, AV.int IntKind.i64 (↑p_1 : Int), AV.int IntKind.i64 ((↑p_2 : Int) + 1), .any, .any, .any, .any, .any, .any, .any, .any, .any, .any, .any, .any, .any, .any, .any, .any, .any, .any, .any, .any, .any, .any, .any, .any, .any, .any, .any, .any, .any, .any, .any, .any, .any, .any, .any, .any, .any, .any, .any, .any, .any, .any, .any, .any, .any, .any, .any, .any, .any, .any, .any, .any, .any, .any, .any, .any, .any, .any, .any, .any, .any, .any, .any, .any, .any, .any, .any, .any, .any, .any, .any, .any, .any, .any, .any, .any, .any, .any, .any, .any, .any, .any, .any, .any, .any, .any, .any, .any, .any, .any, .any, .any, .any, .any, .any, .any, .any] [some (Blk.mk false (53 : TypeId) 6 true (List.map enE l)), some (Blk.mk true (53 : TypeId) 6 true (F p.1))] = meS2 F l p.1 p_1 p' ∧ meI2 p.1 p_1 p' ∧ List.length p.1 + 1 - p' < List.length p.1 + 1 - p_2) ∧ ((!meB (at' p.1 p_1) (at' p.1 p_2)) = false → (0 ≤ (↑p_1 : Int) ∧ (↑p_1 : Int) < (↑(List.length p.1) : Int)) ∧ Blk.read Proofs.Tryz.prog (Blk.mk true (53 : TypeId) 6 true (F p.1)) 3 (0 + Int.toNat (↑p_1 : Int)) (0 + 4) = some (AV.int IntKind.i64 (at' (Prod.fst p) p_1).5) ∧ (0 ≤ (↑p_2 : Int) ∧ (↑p_2 : Int) < (↑(List.length p.1) : Int)) ∧ Blk.read Proofs.Tryz.prog (Blk.mk true (53 : TypeId) 6 true (F p.1)) 3 (0 + Int.toNat (↑p_2 : Int)) (0 + 4) = some (AV.int IntKind.i64 (at' (Prod.fst p) p_2).5) ∧ (((at' (Prod.fst p) p_1).5 != (at' (Prod.fst p) p_2).5) = true → inRange IntKind.i64 ((↑p_2 : Int) + 1) ∧ ∃ (p' : Nat), St.mk [AV.vsl (0 + 1) 0 (List.length p.1), .any, .any, .any, AV.int IntKind.i64 (↑p_1 : Int), AV.int IntKind.i64 ((↑p_2 : Int) + 1), .any, .any, .any, .any, .any, .any, .any, .any, .any, .any, .any, .any, .any, .any, .any, .any, .any, .any, .any, .any, .any, .any, .any, .any, .any, .any, .any, .any, .any, .any, .any, .any, .any, .any, .any, .any, .any, .any, .any, .any, .any, .any, .any, .any, .any, .any, .any, .any, .any, .any, .any, .any, .any, .any, .any, .any, .any, .any, .any, .any, .any, .any, .any, .any, .any, .any, .any, .any, .any, .any, .any, .any, .any, .any, .any, .any, .any, .any, .any, .any, .any, .any, .any, .any, .any, .any, .any, .any, .any, .any, .any, .any, .any, .any, .any, .any, .any] [some (Blk.mk false (53 : TypeId) 6 true (List.map enE l)), some (Blk.mk true (53 : TypeId) 6 true (F p.1))] = meS2 F l p.1 p_1 p' ∧ meI2 p.1 p_1 p' ∧ List.length p.1 + 1 - p' < List.length p.1 + 1 - p_2) ∧ (((at' (Prod.fst p) p_1).5 != (at' (Prod.fst p) p_2).5) = false → (0 ≤ (↑p_1 : Int) ∧ (↑p_1 : Int) < (↑(List.length p.1) : Int)) ∧ Blk.read Proofs.Tryz.prog (Blk.mk true (53 : TypeId) 6 true (F p.1)) 3 (0 + Int.toNat (↑p_1 : Int)) (0 + 5) = some (AV.int IntKind.i64 (at' (Prod.fst p) p_1).6) ∧ (0 ≤ (↑p_2 : Int) ∧ (↑p_2 : Int) < (↑(List.length p.1) : Int)) ∧ Blk.read Proofs.Tryz.prog (Blk.mk true (53 : TypeId) 6 true (F p.1)) 3 (0 + Int.toNat (↑p_2 : Int)) (0 + 5) = some (AV.int IntKind.i64 (at' (Prod.fst p) p_2).6) ∧ (((at' (Prod.fst p) p_1).6 != (at' (Prod.fst p) p_2).6) = true → inRange IntKind.i64 ((↑p_2 : Int) + 1) ∧ ∃ (p' : Nat), St.mk [AV.vsl (0 + 1) 0 (List.length p.1), .any, .any, .any, AV.int IntKind.i64 (↑p_1 : Int), AV.int IntKind.i64 ((↑p_2 : Int) + 1), .any, .any, .any, .any, .any, .any, .any, .any, .any, .any, .any, .any, .any, .any, .any, .any, .any, .any, .any, .any, .any, .any, .any, .any, .any, .any, .any, .any, .any, .any, .any, .any, .any, .any, .any, .any, .any, .any, .any, .any, .any, .any, .any, .any, .any, .any, .any, .any, .any, .any, .any, .any, .any, .any, .any, .any, .any, .any, .any, .any, .any, .any, .any, .any, .any, .any, .any, .any, .any, .any, .any, .any, .any, .any, .any, .any, .any, .any, .any, .any, .any, .any, .any, .any, .any, .any, .any, .any, .any, .any, .any, .any, .any, .any, .any, .any, .any] [some (Blk.mk false (53 : TypeId) 6 true (List.map enE l)), some (Blk.mk true (53 : TypeId) 6 true (F p.1))] = meS2 F l p.1 p_1 p' ∧ meI2 p.1 p_1 p' ∧ List.length p.1 + 1 - p' < List.length p.1 + 1 - p_2) ∧ (((at' (Prod.fst p) p_1).6 != (at' (Prod.fst p) p_2).6) = false → (0 ≤ (↑p_1 : Int) ∧ (↑p_1 : Int) < (↑(List.length p.1) : Int)) ∧ Blk.read Proofs.Tryz.prog (Blk.mk true (53 : TypeId) 6 true (F p.1)) 3 (0 + Int.toNat (↑p_1 : Int)) (0 + 4) = some (AV.int IntKind.i64 (at' (Prod.fst p) p_1).5) ∧ (0 ≤ (↑p_1 : Int) ∧ (↑p_1 : Int) < (↑(List.length p.1) : Int)) ∧ Blk.read Proofs.Tryz.prog (Blk.mk true (53 : TypeId) 6 true (F p.1)) 3 (0 + Int.toNat (↑p_1 : Int)) (0 + 5) = some (AV.int IntKind.i64 (at' (Prod.fst p) p_1).6) ∧ (St.mk [AV.vsl (0 + 1) 0 (List.length p.1), .any, .any, .any, AV.int IntKind.i64 (↑p_1 : Int), AV.int IntKind.i64 (↑p_2 : Int), .any, .any, AV.vsl (0 + 1 + 1) 0 1, AV.int IntKind.i64 0, .any, .any, .any, .any, .any, .any, .any, .any, .any, .any, .any, .any, .any, .any, .any, .any, .any, .any, .any, .any, .any, .any, .any, .any, .any, .any, .any, .any, .any, .any, .any, .any, .any, .any, .any, .any, .any, .any, .any, .any, .any, .any, .any, .any, .any, .any, .any, .any, .any, .any, .any, .any, .any, .any, .any, .any, .any, .any, .any, .any, .any, .any, .any, .any, .any, .any, .any, .any, .any, .any, .any, .any, .any, .any, .any, .any, .any, .any, .any, .any, .any, .any, .any, .any, .any, .any, .any, .any, .any, .any, .any, .any, .any] [some (Blk.mk false (53 : TypeId) 6 true (List.map enE l)), some (Blk.mk true (53 : TypeId) 6 true (F p.1)), some (Blk.mk true 53 6 true [AV.agg [AV.w64 (selW (mgB (at' (Prod.fst p) p_1).1 (at' (Prod.fst p) p_1).2 (at' (Prod.fst p) p_1).3 (at' (Prod.fst p) p_1).4 (at' (Prod.fst p) p_2).1 (at' (Prod.fst p) p_2).2 (at' (Prod.fst p) p_2).3 (at' (Prod.fst p) p_2).4) ((at' (Prod.fst p) p_1).1 &&& ((at' (Prod.fst p) p_1).3 ^^^ ((at' (Prod.fst p) p_1).1 ^^^ (at' (Prod.fst p) p_2).1) &&& (at' (Prod.fst p) p_1).3))), AV.w64 (selW (mgB (at' (Prod.fst p) p_1).1 (at' (Prod.fst p) p_1).2 (at' (Prod.fst p) p_1).3 (at' (Prod.fst p) p_1).4 (at' (Prod.fst p) p_2).1 (at' (Prod.fst p) p_2).2 (at' (Prod.fst p) p_2).3 (at' (Prod.fst p) p_2).4) ((at' (Prod.fst p) p_1).2 &&& ((at' (Prod.fst p) p_1).4 ^^^ ((at' (Prod.fst p) p_1).2 ^^^ (at' (Prod.fst p) p_2).2) &&& (at' (Prod.fst p) p_1).4))), AV.w64 (selW (mgB (at' (Prod.fst p) p_1).1 (at' (Prod.fst p) p_1).2 (at' (Prod.fst p) p_1).3 (at' (Prod.fst p) p_1).4 (at' (Prod.fst p) p_2).1 (at' (Prod.fst p) p_2).2 (at' (Prod.fst p) p_2).3 (at' (Prod.fst p) p_2).4) ((at' (Prod.fst p) p_1).3 ^^^ ((at' (Prod.fst p) p_1).1 ^^^ (at' (Prod.fst p) p_2).1) &&& (at' (Prod.fst p) p_1).3)), AV.w64 (selW (mgB (at' (Prod.fst p) p_1).1 (at' (Prod.fst p) p_1).2 (at' (Prod.fst p) p_1).3 (at' (Prod.fst p) p_1).4 (at' (Prod.fst p) p_2).1 (at' (Prod.fst p) p_2).2 (at' (Prod.fst p) p_2).3 (at' (Prod.fst p) p_2).4) ((at' (Prod.fst p) p_1).4 ^^^ ((at' (Prod.fst p) p_1).2 ^^^ (at' (Prod.fst p) p_2).2) &&& (at' (Prod.fst p) p_1).4)), AV.int IntKind.i64 (at' (Prod.fst p) p_1).5, AV.int IntKind.i64 (at' (Prod.fst p) p_1).6]])] = meS3 F l p.1 p_1 p_2 0 ∧ Nat.le 0 (List.length p.1)) ∧ ∀ (p_4 : Nat), Nat.le p_4 (List.length p.1) → (Decidable.decide ((↑p_4 : Int) < (↑(List.length p.1) : Int)) = true → (((↑p_4 : Int) != (↑p_1 : Int)) = true → (((↑p_4 : Int) != (↑p_2 : Int)) = true → (0 ≤ (↑p_4 : Int) ∧ (↑p_4 : Int) < (↑(List.length p.1) : Int)) ∧ Blk.read Proofs.Tryz.prog (Blk.mk true (53 : TypeId) 6 true (F p.1)) 53 (0 + Int.toNat (↑p_4 : Int)) 0 = some (AV.agg [AV.w64 (at' (Prod.fst p) p_4).1, AV.w64 (at' (Prod.fst p) p_4).2, AV.w64 (at' (Prod.fst p) p_4).3, AV.w64 (at' (Prod.fst p) p_4).4, AV.int IntKind.i64 (at' (Prod.fst p) p_4).5, AV.int IntKind.i64 (at' (Prod.fst p) p_4).6]) ∧ ((List.length (meR p.1 p_1 p_2 p_4) + 1) * 48 ≤ 140737488355328 ∧ List.length (meR p.1 p_1 p_2 p_4) + 1 ≤ 9223372036854775807 ∧ 0 + 1 ≤ List.length [AV.agg [AV.w64 (at' (Prod.fst p) p_4).1, AV.w64 (at' (Prod.fst p) p_4).2, AV.w64 (at' (Prod.fst p) p_4).3, AV.w64 (at' (Prod.fst p) p_4).4, AV.int IntKind.i64 (at' (Prod.fst p) p_4).5, AV.int IntKind.i64 (at' (Prod.fst p) p_4).6]] ∧ List.length (meR p.1 p_1 p_2 p_4) ≤ List.length (F (meR p.1 p_1 p_2 p_4))) ∧ List.take (List.length (meR p.1 p_1 p_2 p_4)) (F (meR p.1 p_1 p_2 p_4)) ++ [AV.agg [AV.w64 (at' (Prod.fst p) p_4).1, AV.w64 (at' (Prod.fst p) p_4).2, AV.w64 (at' (Prod.fst p) p_4).3, AV.w64 (at' (Prod.fst p) p_4).4, AV.int IntKind.i64 (at' (Prod.fst p) p_4).5, AV.int IntKind.i64 (at' (Prod.fst p) p_4).6]] = F (meR p.1 p_1 p_2 (p_4 + 1)) ∧ inRange IntKind.i64 ((↑p_4 : Int) + 1) ∧ ∃ (p' : Nat), St.mk [AV.vsl (0 + 1) 0 (List.length p.1), .any, .any, .any, AV.int IntKind.i64 (↑p_1 : Int), AV.int IntKind.i64 (↑p_2 : Int), .any, .any, AV.vsl (0 + 1 + 1) 0 (List.length (meR p.1 p_1 p_2 p_4) + 1), AV.int IntKind.i64 ((↑p_4 : Int) + 1), .any, .any, .any, .any, .any, .any, .any, .any, .any, .any, .any, .any, .any, .any, .any, .any, .any, .any, .any, .any, .any, .any, .any, .any, .any, .any, .any, .any, .any, .any, .any, .any, .any, .any, .any, .any, .any, .any, .any, .any, .any, .any, .any, .any, .any, .any, .any, .any, .any, .any, .any, .any, .any, .any, .any, .any, .any, .any, .any, .any, .any, .any, .any, .any, .any, .any, .any, .any, .any, .any, .any, .any, .any, .any, .any, .any, .any, .any, .any, .any, .any, .any, .any, .any, .any, .any, .any, .any, .any, .any, .any, .any, .any] [some (Blk.mk false (53 : TypeId) 6 true (List.map enE l)), some (Blk.mk true (53 : TypeId) 6 true (F p.1)), some (Blk.mk true 53 6 true (F (meR p.1 p_1 p_2 (p_4 + 1))))] = meS3 F l p.1 p_1 p_2 p' ∧ Nat.le p' (List.length p.1) ∧ List.length p.1 + 1 - p' < List.length p.1 + 1 - p_4) ∧ (((↑p_4 : Int) != (↑p_2 : Int)) = false → inRange IntKind.i64 ((↑p_4 : Int) + 1) ∧ ∃ (p' : Nat), St.mk [AV.vsl (0 + 1) 0 (List.length p.1), .any, .any, .any, AV.int IntKind.i64 (↑p_1 : Int), AV.int IntKind.i64 (↑p_2 : Int), .any, .any, AV.vsl (0 + 1 + 1) 0 (List.length (meR p.1 p_1 p_2 p_4)), AV.int IntKind.i64 ((↑p_4 : Int) + 1), .any, .any, .any, .any, .any, .any, .any, .any, .any, .any, .any, .any, .any, .any, .any, .any, .any, .any, .any, .any, .any, .any, .any, .any, .any, .any, .any, .any, .any, .any, .any, .any, .any, .any, .any, .any, .any, .any, .any, .any, .any, .any, .any, .any, .any, .any, .any, .any, .any, .any, .any, .any, .any, .any, .any, .any, .any, .any, .any, .any, .any, .any, .any, .any, .any, .any, .any, .any, .any, .any, .any, .any, .any, .any, .any, .any, .any, .any, .any, .any, .any, .any, .any, .any, .any, .any, .any, .any, .any, .any, .any, .any, .any] [some (Blk.mk false (53 : TypeId) 6 true (List.map enE l)), some (Blk.mk true (53 : TypeId) 6 true (F p.1)), some (Blk.mk true (53 : TypeId) 6 true (F (meR p.1 p_1 p_2 p_4)))] = meS3 F l p.1 p_1 p_2 p' ∧ Nat.le p' (List.length p.1) ∧ List.length p.1 + 1 - p' < List.length p.1 + 1 - p_4)) ∧ (((↑p_4 : Int) != (↑p_1 : Int)) = false → inRange IntKind.i64 ((↑p_4 : Int) + 1) ∧ ∃ (p' : Nat), St.mk [AV.vsl (0 + 1) 0 (List.length p.1), .any, .any, .any, AV.int IntKind.i64 (↑p_1 : Int), AV.int IntKind.i64 (↑p_2 : Int), .any, .any, AV.vsl (0 + 1 + 1) 0 (List.length (meR p.1 p_1 p_2 p_4)), AV.int IntKind.i64 ((↑p_4 : Int) + 1), .any, .any, .any, .any, .any, .any, .any, .any, .any, .any, .any, .any, .any, .any, .any, .any, .any, .any, .any, .any, .any, .any, .any, .any, .any, .any, .any, .any, .any, .any, .any, .any, .any, .any, .any, .any, .any, .any, .any, .any, .any, .any, .any, .any, .any, .any, .any, .any, .any, .any, .any, .any, .any, .any, .any, .any, .any, .any, .any, .any, .any, .any, .any, .any, .any, .any, .any, .any, .any, .any, .any, .any, .any, .any, .any, .any, .any, .any, .any, .any, .any, .any, .any, .any, .any, .any, .any, .any, .any, .any, .any, .any, .any] [some (Blk.mk false (53 : TypeId) 6 true (List.map enE l)), some (Blk.mk true (53 : TypeId) 6 true (F p.1)), some (Blk.mk true (53 : TypeId) 6 true (F (meR p.1 p_1 p_2 p_4)))] = meS3 F l p.1 p_1 p_2 p' ∧ Nat.le p' (List.length p.1) ∧ List.length p.1 + 1 - p' < List.length p.1 + 1 - p_4)) ∧ (Decidable.decide ((↑p_4 : Int) < (↑(List.length p.1) : Int)) = false → 0 + List.length (meR p.1 p_1 p_2 p_4) ≤ List.length (F (meR p.1 p_1 p_2 p_4)) ∧ List.take (List.length (meR p.1 p_1 p_2 p_4)) (List.drop 0 (F (meR p.1 p_1 p_2 p_4))) = List.map enE (deE (List.take (List.length (meR p.1 p_1 p_2 p_4)) (List.drop 0 (F (meR p.1 p_1 p_2 p_4))))) ∧ List.length (deE (List.take (List.length (meR p.1 p_1 p_2 p_4)) (List.drop 0 (F (meR p.1 p_1 p_2 p_4))))) ≤ 1000000 ∧ (List.map enE (srE (deE (List.take (List.length (meR p.1 p_1 p_2 p_4)) (List.drop 0 (F (meR p.1 p_1 p_2 p_4)))))) = F (srE (meR p.1 p_1 p_2 p_4)) ∧ List.length (List.map enE (srE (deE (List.take (List.length (meR p.1 p_1 p_2 p_4)) (List.drop 0 (F (meR p.1 p_1 p_2 p_4))))))) = List.length (F (srE (meR p.1 p_1 p_2 p_4)))) ∧ ∃ (p' : List En × Bool), St.mk [.any, .any, .any, AV.vsl (0 + 1) 0 (List.length (F (srE (meR p.1 p_1 p_2 p_4)))), AV.bool true, .any, .any, .any, .any, .any, .any, .any, .any, .any] [some (Blk.mk false (53 : TypeId) 6 true (List.map enE l)), some (Blk.mk true (53 : TypeId) 6 true (F (srE (meR p.1 p_1 p_2 p_4))))] = meSt F l p' ∧ meI l p' ∧ (2 * List.length p'.1 + if p'.2 = true then 1 else 0) < 2 * List.length p.1 + if p.2 = true then 1 else 0))))) ∧ (Decidable.decide ((↑p_2 : Int) < (↑(List.length p.1) : Int)) = false → inRange IntKind.i64 ((↑p_1 : Int) + 1) ∧ ∃ (p' : Nat), St.mk [AV.vsl (0 + 1) 0 (List.length p.1), .any, .any, .any, AV.int IntKind.i64 ((↑p_1 : Int) + 1), .any, .any, .any, .any, .any, .any, .any, .any, .any, .any, .any, .any, .any, .any, .any, .any, .any, .any, .any, .any, .any, .any, .any, .any, .any, .any, .any, .any, .any, .any, .any, .any, .any, .any, .any, .any, .any, .any, .any, .any, .any, .any, .any, .any, .any, .any, .any, .any, .any, .any, .any, .any, .any, .any, .any, .any, .any, .any, .any, .any, .any, .any, .any, .any, .any, .any, .any, .any, .any, .any, .any, .any, .any, .any, .any, .any, .any, .any, .any, .any, .any, .any, .any, .any, .any, .any, .any, .any, .any, .any, .any, .any, .any, .any, .any, .any, .any, .any] [some (Blk.mk false (53 : TypeId) 6 true (List.map enE l)), some (Blk.mk true (53 : TypeId) 6 true (F p.1))] = meS1 F l p.1 p' ∧ meI1 p.1 p' ∧ List.length p.1 + 1 - p' < List.length p.1 + 1 - p_1)) ∧ (Decidable.decide ((↑p_1 : Int) < (↑(List.length p.1) : Int)) = false → ∃ (p' : List En × Bool), St.mk [.any, .any, .any, AV.vsl (0 + 1) 0 (List.length p.1), AV.bool false, .any, .any, .any, .any, .any, .any, .any, .any, .any] [some (Blk.mk false (53 : TypeId) 6 true (List.map enE l)), some (Blk.mk true (53 : TypeId) 6 true (F p.1))] = meSt F l p' ∧ meI l p' ∧ (2 * List.length p'.1 + if p'.2 = true then 1 else 0) < 2 * List.length p.1 + if p.2 = true then 1 else 0)) ∧ (p.2 = false → List.length p.1 = List.length es ∧ some (Blk.mk true (53 : TypeId) 6 true (F p.1)) = some (Blk.mk true (53 : TypeId) 6 true es))) := by kernel_rfl

theorem rmerge10Cs_ok : ∀ e ∈ rmerge10Cs, SpecOK Tryz.prog e.1 e.2 := by
  intro e he
  simp only [rmerge10Cs, List.mem_cons, List.not_mem_nil, or_false] at he
  rcases he with rfl | rfl
  · exact rsort_ok
  · exact rwmerge_ok

theorem rmerge10_ok : SpecOK Tryz.prog 21 (genSpec [pRefE] rmerge10F) := by
  refine genSpec_ok (run_ok (l := rmerge10Cs) rmerge10Cs_ok mixed noNG) fun l R hF => ?_
  unfold rmerge10F at hF
  split at hF
  · rename_i r_l
    obtain ⟨hr_l, hl, hF⟩ := hF
    generalize deE r_l = l at hr_l hl hF
    subst hr_l
    refine ⟨_, hF, trivial, (meH (List.map enE) l), ?_⟩
    show run rmerge10Cs Tryz.prog _ [.vsl 0 0 (l.map enE).length] [some ⟨false, (pRefE.getD (0, 0)).1, (pRefE.getD (0, 0)).2, true, (l.map enE)⟩] _ _
    rw [rmerge10_run]
    have hsl := srE_length l
    have hlm : (l.map enE).length = l.length := List.length_map _
    refine ⟨by omega, by simp only [whole_row, deE_map], by simp only [whole_row, deE_map]; exact hl, ⟨by simp only [whole_row, deE_map], by simp only [whole_row, deE_map]⟩, ⟨by unfold meSt; rw [List.length_map], by rw [hsl]; exact Nat.le_refl _, fun _ => (mrE_first l).symm, fun h => by cases h⟩, ?_⟩
    rintro ⟨m, b⟩ ⟨i1, i2, i3⟩
    dsimp only at i1 i2 i3 ⊢
    have hmm : (m.map enE).length = m.length := List.length_map _
    refine ⟨fun hb => ⟨⟨rfl, Nat.zero_le _, fun a b ha => by omega⟩, ?_⟩, fun hb => ?_⟩
    · have j2 := i2 hb
      subst hb
      rintro i ⟨a1, a2⟩
      refine ⟨fun hlt => ⟨inR (by omega) (by omega), ⟨rfl, ?_⟩, ?_⟩, fun hge => ?_⟩
      · have hi : i < m.length := by have := of_decide_eq_true hlt; omega
        exact ⟨Nat.lt_succ_self i, hi, fun b h1 h2 => by omega⟩
      · have hi : i < m.length := by have := of_decide_eq_true hlt; omega
        have Bi : 0 ≤ (i : Int) ∧ (i : Int) < (m.length : Int) := by omega
        rintro k ⟨b1, b2, b3⟩
        refine ⟨fun hlt2 => ?_, fun hge2 => ?_⟩
        · have hk : k < m.length := by have := of_decide_eq_true hlt2; omega
          have Bk : 0 ≤ (k : Int) ∧ (k : Int) < (m.length : Int) := by omega
          have rd : ∀ {j : Nat} {t : TypeId} {o : Nat} {y : AV}, j < m.length → partOf Tryz.prog t (enE (at' m j)).cells o = some y → (Blk.mk true 53 6 true (m.map enE)).read Tryz.prog t (0 + ((j : Int)).toNat) o = some y := fun hj h => read_rows (by omega) (by omega) h
          have k1 : inRange .i64 ((k : Int) + 1) := inR (by omega) (by omega)
          have nx : mgE (at' m i) (at' m k) = false → inRange .i64 ((k : Int) + 1) ∧ ∃ p', (⟨[.vsl 1 0 m.length, .any, .any, .any, .int .i64 i, .int .i64 ((k : Int) + 1), .any, .any, .any, .any, .any, .any, .any, .any, .any, .any, .any, .any, .any, .any, .any, .any, .any, .any, .any, .any, .any, .any, .any, .any, .any, .any, .any, .any, .any, .any, .any, .any, .any, .any, .any, .any, .any, .any, .any, .any, .any, .any, .any, .any, .any, .any, .any, .any, .any, .any, .any, .any, .any, .any, .any, .any, .any, .any, .any, .any, .any, .any, .any, .any, .any, .any, .any, .any, .any, .any, .any, .any, .any, .any, .any, .any, .any, .any, .any, .any, .any, .any, .any, .any, .any, .any, .any, .any, .any, .any, .any, .any, .any, .any, .any, .any, .any], [some ⟨false, 53, 6, true, l.map enE⟩, some ⟨true, 53, 6, true, m.map enE⟩]⟩ : St) = meS2 (List.map enE) l m i p' ∧ meI2 m i p' ∧ m.length + 1 - p' < m.length + 1 - k := fun h => by
            refine ⟨k1, k + 1, rfl, ⟨by omega, hk, fun b h1 h2 => ?_⟩, by omega⟩
            rcases Nat.lt_or_eq_of_le (Nat.le_of_lt_succ h2) with h' | rfl
            · exact b3 b h1 h'
            · exact h
          refine ⟨⟨Bi, rd hi (ref_word _), Bk, rd hk (ref_word _), (by repeat' apply And.intro
                                                                       all_goals exact ⟨(), rfl, trivial⟩)⟩, fun _ _ => ⟨fun hn => nx ?_, fun hg => ⟨Bi, rd hi (ref_len _), Bk, rd hk (ref_len _), fun hn => nx ?_, fun hl1 => ⟨Bi, rd hi (ref_act _), Bk, rd hk (ref_act _), fun hn => nx ?_, fun ha1 => ⟨Bi, rd hi (ref_len _), Bi, rd hi (ref_act _), ⟨?_, Nat.zero_le _⟩, ?_⟩⟩⟩⟩⟩
          · have hn : meB (at' m i) (at' m k) = false := by simpa using hn
            unfold mgE
            rw [show mgB _ _ _ _ _ _ _ _ = false from hn, Bool.and_false, Bool.and_false]
          · have hn : (at' m i).len ≠ (at' m k).len := by simpa using hn
            unfold mgE
            rw [decide_eq_false hn, Bool.false_and]
          · have hn : (at' m i).act ≠ (at' m k).act := by simpa using hn
            unfold mgE
            rw [decide_eq_false hn, Bool.false_and, Bool.and_false]
          · have hg : mgB (at' m i).v (at' m i).w (at' m i).m (at' m i).n (at' m k).v (at' m k).w (at' m k).m (at' m k).n = true := by simpa [meB] using hg
            rw [hg]
            rfl
          · have hg : mgB (at' m i).v (at' m i).w (at' m i).m (at' m i).n (at' m k).v (at' m k).w (at' m k).m (at' m k).n = true := by simpa [meB] using hg
            have hl1 : (at' m i).len = (at' m k).len := by simpa using hl1
            have ha1 : (at' m i).act = (at' m k).act := by simpa using ha1
            have hmg : mgE (at' m i) (at' m k) = true := mgE_iff.2 ⟨hl1, ha1, hg⟩
            intro n (hn : n ≤ m.length)
            have hrl : (meR m i k n).length ≤ n + 1 := by have := exL_le m i k n; unfold meR; rw [List.length_cons]; omega
            have hrm : ((meR m i k n).map enE).length = (meR m i k n).length := List.length_map _
            have n1 : inRange .i64 ((n : Int) + 1) := inR (by omega) (by omega)
            have skip : n < m.length → n = i ∨ n = k → inRange .i64 ((n : Int) + 1) ∧ ∃ p', (⟨[.vsl 1 0 m.length, .any, .any, .any, .int .i64 i, .int .i64 k, .any, .any, .vsl 2 0 (meR m i k n).length, .int .i64 ((n : Int) + 1), .any, .any, .any, .any, .any, .any, .any, .any, .any, .any, .any, .any, .any, .any, .any, .any, .any, .any, .any, .any, .any, .any, .any, .any, .any, .any, .any, .any, .any, .any, .any, .any, .any, .any, .any, .any, .any, .any, .any, .any, .any, .any, .any, .any, .any, .any, .any, .any, .any, .any, .any, .any, .any, .any, .any, .any, .any, .any, .any, .any, .any, .any, .any, .any, .any, .any, .any, .any, .any, .any, .any, .any, .any, .any, .any, .any, .any, .any, .any, .any, .any, .any, .any, .any, .any, .any, .any, .any, .any, .any, .any, .any, .any], [some ⟨false, 53, 6, true, l.map enE⟩, some ⟨true, 53, 6, true, m.map enE⟩, some ⟨true, 53, 6, true, (meR m i k n).map enE⟩]⟩ : St) = meS3 (List.map enE) l m i k p' ∧ Nat.le p' m.length ∧ m.length + 1 - p' < m.length + 1 - n := fun hlt h => by
              have e : meR m i k (n + 1) = meR m i k n := by unfold meR; rw [exL_next, if_pos h]
              refine ⟨n1, n + 1, ?_, hlt, by omega⟩
              unfold meS3
              rw [e]; rfl
            refine ⟨fun hlt3 => ?_, fun hge3 => ?_⟩
            · have hn3 : n < m.length := by have := of_decide_eq_true hlt3; omega
              refine ⟨fun h1 => ⟨fun h2 => ?_, fun h2 => skip hn3 (.inr ?_)⟩, fun h1 => skip hn3 (.inl ?_)⟩
              · have h1 : ¬ (n : Int) = i := by simpa using h1
                have h2 : ¬ (n : Int) = k := by simpa using h2
                have e : meR m i k (n + 1) = meR m i k n ++ [at' m n] := by unfold meR; rw [exL_next, if_neg (by omega)]; rfl
                have el : (meR m i k (n + 1)).length = (meR m i k n).length + 1 := by rw [e, List.length_append]; rfl
                refine ⟨by omega, rd hn3 (ref_whole _), ⟨by omega, by omega, Nat.le_refl _, by omega⟩, ?_, n1, n + 1, ?_, hn3, by omega⟩
                · rw [List.take_of_length_le (by omega), e, List.map_append]; rfl
                · unfold meS3
                  rw [el]; rfl
              · have h2 : (n : Int) = k := by simpa using h2
                omega
              · have h1 : (n : Int) = i := by simpa using h1
                omega
            · have hn3 : n = m.length := by have := of_decide_eq_false hge3; omega
              subst hn3
              have hx := exL_length m b1 hk
              have hr2 : (meR m i k m.length).length + 1 = m.length := by unfold meR; rw [List.length_cons]; omega
              have h2 : m2E m = some (srE (meR m i k m.length)) := by unfold m2E; rw [m1E_at b1 hk ⟨a2, b3⟩ hmg]; rfl
              have hs2 := srE_length (meR m i k m.length)
              simp only [take_all (rfl : (meR m i k m.length).length = _), deE_map, true_and]
              refine ⟨by omega, by omega, (srE (meR m i k m.length), true), ?_, ⟨by show (srE _).length ≤ _; omega, fun _ => ?_, fun h => by cases h⟩, ?_⟩
              · unfold meSt
                rw [List.length_map]
              · rw [← j2, mrG_step h2]
              · show 2 * (srE _).length + 1 < 2 * m.length + 1
                omega
        · have hk : k = m.length := by have := of_decide_eq_false hge2; omega
          subst hk
          refine ⟨inR (by omega) (by omega), i + 1, rfl, ⟨hi, fun a b ha hab hb => ?_⟩, by omega⟩
          rcases Nat.lt_or_eq_of_le (Nat.le_of_lt_succ ha) with h' | rfl
          · exact a2 a b h' hab hb
          · exact b3 b hab hb
      · have hi : i = m.length := by have := of_decide_eq_false hge; omega
        subst hi
        have hno : m2E m = none := by unfold m2E; rw [m1E_no fun a b hab hb => a2 a b (by omega) hab hb]
        refine ⟨(m, false), rfl, ⟨i1, fun h => (by cases h), fun _ => ?_⟩, Nat.lt_succ_self _⟩
        rw [← j2, mrG_last hno]
    · rw [i3 hb]
      exact ⟨(List.length_map _).symm, rfl⟩
  · exact hF.elim


end Go.Proofs.YtnjbgbdcbejciaaGreat.L1
end

section
/-
  Layer 10: the document's Of and Build; the law's same.
-/
namespace Go.Proofs.YtnjbgbdcbejciaaGreat.L1
open Go.Sx Go.Sx.M

/-- A route's entry. -/
def rtOE (r : Ro) : En := ⟨r.p.a &&& mkW r.p.len, r.p.b &&& mkW (r.p.len - 64), mkW r.p.len, mkW (r.p.len - 64), clamp r.p.len, r.act⟩

/-- A table's entries. -/
def bdE (l : List Ro) (m : Int) : List En :=
  if m = 0 then srE (l.map rtOE) else if m = 1 then srE ((kpR l).map rtOE) else if m = 2 then mrE ((kpR l).map rtOE) else []

def sdSt (l m : List En) (p : Nat) : St :=
  ⟨[.any, .vsl 1 0 (m.map enE).length, .any, .any, .any, .vsl 2 0 (l.map enE).length, .any, .any, .any, .any, .any, .any, .any, .any, .any, .int .i64 (l.map enE).length, .int .i64 p, .any, .any, .any, .any, .any, .any, .any, .any, .any, .any, .any, .any], [some ⟨false, 46, 6, true, l.map enE⟩, some ⟨false, 53, 6, true, m.map enE⟩, some ⟨true, 53, 6, true, l.map enE⟩]⟩
def sdM0 : Modes := ⟨[0, 1, 0, 0, 0, 1, 0, 0, 0, 0, 0, 0, 0, 0, 0, 1, 2, 0, 0, 0, 0, 0, 0, 0, 0, 0, 0, 0, 0], [], [], [], []⟩
def sdM : Modes := ⟨[0, 1, 0, 0, 0, 1, 0, 0, 0, 0, 0, 0, 0, 0, 0, 1, 1, 0, 0, 0, 0, 0, 0, 0, 0, 0, 0, 0, 0], [], [], [], []⟩
def sdM' : Modes := ⟨[0, 0, 0, 0, 2, 0, 0, 0, 0, 0, 0, 0, 0, 0, 0, 0, 0, 0, 0, 0, 0, 0, 0, 0, 0, 0, 0, 0, 0], [], [], [], []⟩
def sdI (l m : List En) (p : Nat) : Prop := p ≤ l.length ∧ ∀ i, i < p → at' l i = at' m i
def sdH (l m : List En) : List Hint := [.nm (l.map enE), .fork [] [.linv _ 0 (sdSt l m) (sdI l m) (fun p => l.length + 1 - p) sdM0 sdM sdM' (fun _ => []) fun p =>
  [.fork [.dy, .cell (enE (at' l p)), .dy, .cell (enE (at' m p)), .fork [] [.nw]] []]]]

/- Build: behind the test of the mode; the table's routes stand in row q. -/
def bdSt (F : List En → List AV) (m : Int) (l k : List Ro) (p : Nat) : St :=
  ⟨[.vsl 1 0 k.length, .int .i64 m, .any, .any, .any, .vsl 2 0 (k.take p).length, .int .i64 p, .any, .any, .any, .any, .any, .any, .any, .any, .any, .any, .any, .any, .any, .any, .any, .any, .any, .any, .any, .any, .any, .any, .any, .any, .any, .any, .any, .any, .any, .any], [some ⟨false, 62, 4, true, l.map roE⟩, some ⟨true, 62, 4, true, k.map roE⟩, some ⟨true, 53, 6, true, F ((k.take p).map rtOE)⟩]⟩
def bdS0 (F : List En → List AV) (m : Int) (l : List Ro) (p : Nat) : St :=
  ⟨[.vsl 0 0 (l.map roE).length, .int .i64 m, .any, .any, .any, .vsl 1 0 (l.take p).length, .int .i64 p, .any, .any, .any, .any, .any, .any, .any, .any, .any, .any, .any, .any, .any, .any, .any, .any, .any, .any, .any, .any, .any, .any, .any, .any, .any, .any, .any, .any, .any, .any], [some ⟨false, 62, 4, true, l.map roE⟩, some ⟨true, 53, 6, true, F ((l.take p).map rtOE)⟩]⟩
def bdM0 : Modes := ⟨[1, 1, 0, 0, 0, 1, 2, 0, 0, 0, 0, 0, 0, 0, 0, 0, 0, 0, 0, 0, 0, 0, 0, 0, 0, 0, 0, 0, 0, 0, 0, 0, 0, 0, 0, 0, 0], [], [], [], [(5, 53, 6)]⟩
def bdM : Modes := ⟨[1, 1, 0, 0, 0, 1, 1, 0, 0, 0, 0, 0, 0, 0, 0, 0, 0, 0, 0, 0, 0, 0, 0, 0, 0, 0, 0, 0, 0, 0, 0, 0, 0, 0, 0, 0, 0], [], [], [], []⟩
def bdM' : Modes := ⟨[1, 1, 0, 0, 0, 1, 0, 0, 0, 0, 0, 0, 0, 0, 0, 0, 0, 0, 0, 0, 0, 0, 0, 0, 0, 0, 0, 0, 0, 0, 0, 0, 0, 0, 0, 0, 0], [], [], [], []⟩
def bdH (F : List En → List AV) (m : Int) (l : List Ro) : List Hint :=
  [.fork [] [.fork [] [.fork
    [.nm ((kpR l).map roE), .linv _ 0 (bdSt F m l (kpR l)) (fun p => p ≤ (kpR l).length) (fun p => (kpR l).length + 1 - p) bdM0 bdM bdM' (fun _ => [.fork [] []]) fun p =>
      [.fork [.dy, .cell (roE (at' (kpR l) p)), .rows (F (((kpR l).take (p + 1)).map rtOE)), .nw] []]]
    [.linv _ 0 (bdS0 F m l) (fun p => p ≤ l.length) (fun p => l.length + 1 - p) bdM0 bdM bdM' (fun _ => [.fork [] []]) fun p =>
      [.fork [.dy, .cell (roE (at' l p)), .rows (F ((l.take (p + 1)).map rtOE)), .nw] []]]]]]

theorem eqEn (x y : En) : (x.v == y.v && x.w == y.w && (x.m == y.m && x.n == y.n) && (x.len == y.len && x.act == y.act)) = decide (x = y) := by
  rw [Bool.eq_iff_iff, decide_eq_true_eq]
  cases x; cases y
  simp [and_assoc]

theorem bd_not {l : List Ro} {m : Int} (h : m < 0 ∨ m > 2) : bdE l m = [] := by
  unfold bdE
  rw [if_neg (by omega), if_neg (by omega), if_neg (by omega)]

theorem rmake02_ok : SpecOK Tryz.prog 46 (genSpec [none, none] makeF) := rmake_ok

def rbuild10F : List Arg → (Res → Prop) → Prop
  | [.row r_l, .v (.int .i64 m)], R => r_l = (deR r_l).map roE ∧ tbR 128 (deR r_l) = true ∧ R (.vrow 53 6 ((bdE (deR r_l) m).map enE))
  | _, _ => False

def rof10F : List Arg → (Res → Prop) → Prop
  | [.v (.agg [.w64 a, .w64 b, .int .i64 k, .int .i64 j])], R => R (.v (.agg [.w64 (a &&& mkW k), .w64 (b &&& mkW (k - 64)), .w64 (mkW k), .w64 (mkW (k - 64)), .int .i64 (clamp k), .int .i64 j]))
  | _, _ => False

noncomputable def rof10Cs : List (FuncId × Sx.Spec) := [(46, genSpec [none, none] makeF),
  (47, genSpec [none] maskF)]

theorem rof10_run (a b : BitVec 64) (k j : Int) (r : AV) : run rof10Cs Tryz.prog 20 [.agg [.w64 a, .w64 b, .int .i64 k, .int .i64 j]] [] [] (yields (.v r)) =
    (AV.agg [AV.w64 (a &&& mkW k), AV.w64 (b &&& mkW (k - (64 : Int))), AV.w64 (mkW (clamp k)), AV.w64 (mkW (clamp k - (64 : Int))), AV.int IntKind.i64 (clamp k), AV.int IntKind.i64 j] = r) := by kernel_rfl

theorem rof10Cs_ok : ∀ e ∈ rof10Cs, SpecOK Tryz.prog e.1 e.2 := by
  intro e he
  simp only [rof10Cs, List.mem_cons, List.not_mem_nil, or_false] at he
  rcases he with rfl | rfl
  · exact rmake02_ok
  · exact mask_ok

theorem rof10_ok : SpecOK Tryz.prog 20 (genSpec [none] rof10F) := by
  refine genSpec_ok (run_ok (l := rof10Cs) rof10Cs_ok mixed noNG) fun l R hF => ?_
  unfold rof10F at hF
  split at hF
  · rename_i a b k j
    refine ⟨_, hF, rfl, [], ?_⟩
    show run rof10Cs Tryz.prog _ [.agg [.w64 a, .w64 b, .int .i64 k, .int .i64 j]] [] _ _
    rw [rof10_run]
    rw [(mkW_clamp k).1, (mkW_clamp k).2]
  · exact hF.elim


def same10F : List Arg → (Res → Prop) → Prop
  | [.row r_l, .row r_m], R => r_l = (deE r_l).map enE ∧ (deE r_l).length ≤ 1000000 ∧ r_m = (deE r_m).map enE ∧ (deE r_m).length ≤ 1000000 ∧ R (.v (.bool (decide ((deE r_l) = (deE r_m)))))
  | _, _ => False

noncomputable def same10Cs : List (FuncId × Sx.Spec) := [(15, genSpec [pEn] of5F)]

theorem same10_run (l m : List En) (r : AV) : run same10Cs Tryz.prog 6 [.vsl 0 0 (l.map enE).length, .vsl 1 0 (m.map enE).length] [some ⟨false, (pEn.getD (0, 0)).1, (pEn.getD (0, 0)).2, true, (l.map enE)⟩, some ⟨false, (pRefE.getD (0, 0)).1, (pRefE.getD (0, 0)).2, true, (m.map enE)⟩] (sdH l m) (yields (.v r)) =
    (0 + List.length (List.map enE l) ≤ List.length (List.map enE l) ∧ List.take (List.length (List.map enE l)) (List.drop 0 (List.map enE l)) = List.map enE (deE (List.take (List.length (List.map enE l)) (List.drop 0 (List.map enE l)))) ∧ List.length (deE (List.take (List.length (List.map enE l)) (List.drop 0 (List.map enE l)))) ≤ 1000000 ∧ (List.map enE (deE (List.take (List.length (List.map enE l)) (List.drop 0 (List.map enE l)))) = List.map enE l ∧ List.length (List.map enE (deE (List.take (List.length (List.map enE l)) (List.drop 0 (List.map enE l))))) = List.length (List.map enE l)) ∧ (((↑(List.length (List.map enE l)) : Int) != (↑(List.length (List.map enE m)) : Int)) = true → AV.bool false = r) ∧ (((↑(List.length (List.map enE l)) : Int) != (↑(List.length (List.map enE m)) : Int)) = false → (St.mk [.any, AV.vsl (0 + 1) 0 (List.length (List.map enE m)), .any, .any, .any, AV.vsl (0 + 1 + 1) 0 (List.length (List.map enE l)), .any, .any, .any, .any, .any, .any, .any, .any, .any, AV.int IntKind.i64 (↑(List.length (List.map enE l)) : Int), AV.int IntKind.i64 0, .any, .any, .any, .any, .any, .any, .any, .any, .any, .any, .any, .any] [some (Blk.mk false (46 : TypeId) 6 true (List.map enE l)), some (Blk.mk false (53 : TypeId) 6 true (List.map enE m)), some (Blk.mk true (53 : TypeId) 6 true (List.map enE l))] = sdSt l m 0 ∧ sdI l m 0) ∧ ∀ (p : Nat), sdI l m p → (Decidable.decide ((↑p : Int) < (↑(List.length (List.map enE l)) : Int)) = true → (0 ≤ (↑p : Int) ∧ (↑p : Int) < (↑(List.length (List.map enE l)) : Int)) ∧ Blk.read Proofs.Tryz.prog (Blk.mk true (53 : TypeId) 6 true (List.map enE l)) 53 (0 + Int.toNat (↑p : Int)) 0 = some (AV.agg [AV.w64 (at' l p).1, AV.w64 (at' l p).2, AV.w64 (at' l p).3, AV.w64 (at' l p).4, AV.int IntKind.i64 (at' l p).5, AV.int IntKind.i64 (at' l p).6]) ∧ (0 ≤ (↑p : Int) ∧ (↑p : Int) < (↑(List.length (List.map enE m)) : Int)) ∧ Blk.read Proofs.Tryz.prog (Blk.mk false (53 : TypeId) 6 true (List.map enE m)) 53 (0 + Int.toNat (↑p : Int)) 0 = some (AV.agg [AV.w64 (at' m p).1, AV.w64 (at' m p).2, AV.w64 (at' m p).3, AV.w64 (at' m p).4, AV.int IntKind.i64 (at' m p).5, AV.int IntKind.i64 (at' m p).6]) ∧ ((!((at' l p).1 == (at' m p).1 && (at' l p).2 == (at' m p).2 && ((at' l p).3 == (at' m p).3 && (at' l p).4 == (at' m p).4) && ((at' l p).5 == (at' m p).5 && (at' l p).6 == (at' m p).6))) = true → AV.bool false = r) ∧ ((!((at' l p).1 == (at' m p).1 && (at' l p).2 == (at' m p).2 && ((at' l p).3 == (at' m p).3 && (at' l p).4 == (at' m p).4) && ((at' l p).5 == (at' m p).5 && (at' l p).6 == (at' m p).6))) = false → inRange IntKind.i64 ((↑p : Int) + 1) ∧ ∃ (p' : Nat), St.mk [.any, AV.vsl (0 + 1) 0 (List.length (List.map enE m)), .any, .any, .any, AV.vsl (0 + 1 + 1) 0 (List.length (List.map enE l)), .any, .any, .any, .any, .any, .any, .any, .any, .any, AV.int IntKind.i64 (↑(List.length (List.map enE l)) : Int), AV.int IntKind.i64 ((↑p : Int) + 1), .any, .any, .any, .any, .any, .any, .any, .any, .any, .any, .any, .any] [some (Blk.mk false (46 : TypeId) 6 true (List.map enE l)), some (Blk.mk false (53 : TypeId) 6 true (List.map enE m)), some (Blk.mk true (53 : TypeId) 6 true (List.map enE l))] = sdSt l m p' ∧ sdI l m p' ∧ List.length l + 1 - p' < List.length l + 1 - p)) ∧ (Decidable.decide ((↑p : Int) < (↑(List.length (List.map enE l)) : Int)) = false → AV.bool true = r))) := by kernel_rfl

theorem same10Cs_ok : ∀ e ∈ same10Cs, SpecOK Tryz.prog e.1 e.2 := by
  intro e he
  simp only [same10Cs, List.mem_cons, List.not_mem_nil, or_false] at he
  rcases he with rfl
  · exact of5_ok

theorem same10_ok : SpecOK Tryz.prog 6 (genSpec [pEn, pRefE] same10F) := by
  refine genSpec_ok (run_ok (l := same10Cs) same10Cs_ok mixed noNG) fun l R hF => ?_
  unfold same10F at hF
  split at hF
  · rename_i r_l r_m
    obtain ⟨hr_l, hl, hF⟩ := hF
    generalize deE r_l = l at hr_l hl hF
    subst hr_l
    obtain ⟨hr_m, hm, hF⟩ := hF
    generalize deE r_m = m at hr_m hm hF
    subst hr_m
    refine ⟨_, hF, rfl, (sdH l m), ?_⟩
    show run same10Cs Tryz.prog _ [.vsl 0 0 (l.map enE).length, .vsl 1 0 (m.map enE).length] [some ⟨false, (pEn.getD (0, 0)).1, (pEn.getD (0, 0)).2, true, (l.map enE)⟩, some ⟨false, (pRefE.getD (0, 0)).1, (pRefE.getD (0, 0)).2, true, (m.map enE)⟩] _ _
    rw [same10_run]
    simp only [whole_row, deE_map]
    refine ⟨by omega, trivial, hl, ⟨trivial, trivial⟩, fun hne => ?_, fun he => ⟨⟨rfl, Nat.zero_le _, fun i hi => by omega⟩, ?_⟩⟩
    · have hne : l ≠ m := fun e => by subst e; simp at hne
      rw [decide_eq_false hne]
    · have he : l.length = m.length := by have : ((l.length : Int)) = (m.length : Int) := by simpa using he
                                          omega
      rintro p ⟨h1, h2⟩
      refine ⟨fun hlt => ?_, fun hge => ?_⟩
      · have hp : p < l.length := by simp only [decide_eq_true_eq, List.length_map] at hlt; omega
        have B : 0 ≤ (p : Int) ∧ (p : Int) < ((l.map enE).length : Int) := by rw [List.length_map]; omega
        have B' : 0 ≤ (p : Int) ∧ (p : Int) < ((m.map enE).length : Int) := by rw [List.length_map]; omega
        refine ⟨B, read_rows B.1 B.2 (ref_whole _), B', read_rows B'.1 B'.2 (ref_whole _), fun hn => ?_, fun hn => ?_⟩
        · rw [eqEn] at hn
          have hne : at' l p ≠ at' m p := by simpa using hn
          rw [decide_eq_false fun e => hne (by rw [e])]
        · rw [eqEn] at hn
          have he : at' l p = at' m p := by simpa using hn
          refine ⟨inR (by omega) (by omega), p + 1, rfl, ⟨hp, fun i hi => ?_⟩, by omega⟩
          rcases Nat.lt_or_eq_of_le (Nat.le_of_lt_succ hi) with h | rfl
          · exact h2 i h
          · exact he
      · have hp : p = l.length := by simp only [decide_eq_false_iff_not, List.length_map] at hge; omega
        have e : l = m := List.ext_getElem? fun i => by
          by_cases hi : i < l.length
          · rw [at_get hi, at_get (by omega), h2 i (by omega)]
          · rw [List.getElem?_eq_none (by omega), List.getElem?_eq_none (by omega)]
        rw [decide_eq_true e]
  · exact hF.elim


noncomputable def rbuild10Cs : List (FuncId × Sx.Spec) := [(19, genSpec [pRefR] rkeepF),
  (20, genSpec [none] rof10F),
  (21, genSpec [pRefE] rmerge10F),
  (22, genSpec [pRefE] rsortF)]

theorem rbuild10_run (l : List Ro) (m : Int) (F : List En → List AV) (es : List AV) : run rbuild10Cs Tryz.prog 8 [.vsl 0 0 (l.map roE).length, .int .i64 m] [some ⟨false, (pRefR.getD (0, 0)).1, (pRefR.getD (0, 0)).2, true, (l.map roE)⟩] (bdH F m l) (yields (.vrow 53 6 es)) =
    ((Decidable.decide (m < 0) = true → es = []) ∧ (Decidable.decide (m < 0) = false → (Decidable.decide (m > 2) = true → es = []) ∧ (Decidable.decide (m > 2) = false → (Decidable.decide (m > 0) = true → 0 + List.length (List.map roE l) ≤ List.length (List.map roE l) ∧ List.take (List.length (List.map roE l)) (List.drop 0 (List.map roE l)) = List.map roE (deR (List.take (List.length (List.map roE l)) (List.drop 0 (List.map roE l)))) ∧ tbR 128 (deR (List.take (List.length (List.map roE l)) (List.drop 0 (List.map roE l)))) = true ∧ (List.map roE (kpR (deR (List.take (List.length (List.map roE l)) (List.drop 0 (List.map roE l))))) = List.map roE (kpR l) ∧ List.length (List.map roE (kpR (deR (List.take (List.length (List.map roE l)) (List.drop 0 (List.map roE l)))))) = List.length (List.map roE (kpR l))) ∧ (St.mk [AV.vsl (0 + 1) 0 (List.length (List.map roE (kpR l))), AV.int IntKind.i64 m, .any, .any, .any, AV.vsl (List.length [some (Blk.mk false (62 : TypeId) 4 true (List.map roE l)), some (Blk.mk true (62 : TypeId) 4 true (List.map roE (kpR l)))]) 0 0, AV.int IntKind.i64 0, .any, .any, .any, .any, .any, .any, .any, .any, .any, .any, .any, .any, .any, .any, .any, .any, .any, .any, .any, .any, .any, .any, .any, .any, .any, .any, .any, .any, .any, .any] ([some (Blk.mk false (62 : TypeId) 4 true (List.map roE l)), some (Blk.mk true (62 : TypeId) 4 true (List.map roE (kpR l)))] ++ [some (Blk.mk true (53 : TypeId) 6 true [])]) = bdSt F m l (kpR l) 0 ∧ Nat.le 0 (List.length (kpR l))) ∧ ∀ (p : Nat), Nat.le p (List.length (kpR l)) → (Decidable.decide ((↑p : Int) < (↑(List.length (kpR l)) : Int)) = true → (0 ≤ (↑p : Int) ∧ (↑p : Int) < (↑(List.length (kpR l)) : Int)) ∧ Blk.read Proofs.Tryz.prog (Blk.mk true (62 : TypeId) 4 true (List.map roE (kpR l))) 62 (0 + Int.toNat (↑p : Int)) 0 = some (AV.agg [AV.w64 (Ro.p (at' (kpR l) p)).1, AV.w64 (Ro.p (at' (kpR l) p)).2, AV.int IntKind.i64 (Ro.p (at' (kpR l) p)).3, AV.int IntKind.i64 (at' (kpR l) p).2]) ∧ ((List.length (List.take p (kpR l)) + 1) * 48 ≤ 140737488355328 ∧ List.length (List.take p (kpR l)) + 1 ≤ 9223372036854775807 ∧ 0 + 1 ≤ List.length [AV.agg [AV.w64 ((Ro.p (at' (kpR l) p)).1 &&& mkW (Ro.p (at' (kpR l) p)).3), AV.w64 ((Ro.p (at' (kpR l) p)).2 &&& mkW ((Ro.p (at' (kpR l) p)).3 - 64)), AV.w64 (mkW (Ro.p (at' (kpR l) p)).3), AV.w64 (mkW ((Ro.p (at' (kpR l) p)).3 - 64)), AV.int IntKind.i64 (clamp (Ro.p (at' (kpR l) p)).3), AV.int IntKind.i64 (at' (kpR l) p).2]] ∧ List.length (List.take p (kpR l)) ≤ List.length (F (List.map rtOE (List.take p (kpR l))))) ∧ List.take (List.length (List.take p (kpR l))) (F (List.map rtOE (List.take p (kpR l)))) ++ [AV.agg [AV.w64 ((Ro.p (at' (kpR l) p)).1 &&& mkW (Ro.p (at' (kpR l) p)).3), AV.w64 ((Ro.p (at' (kpR l) p)).2 &&& mkW ((Ro.p (at' (kpR l) p)).3 - 64)), AV.w64 (mkW (Ro.p (at' (kpR l) p)).3), AV.w64 (mkW ((Ro.p (at' (kpR l) p)).3 - 64)), AV.int IntKind.i64 (clamp (Ro.p (at' (kpR l) p)).3), AV.int IntKind.i64 (at' (kpR l) p).2]] = F (List.map rtOE (List.take (p + 1) (kpR l))) ∧ inRange IntKind.i64 ((↑p : Int) + 1) ∧ ∃ (p' : Nat), St.mk [AV.vsl (0 + 1) 0 (List.length (kpR l)), AV.int IntKind.i64 m, .any, .any, .any, AV.vsl (0 + 1 + 1) 0 (List.length (List.take p (kpR l)) + 1), AV.int IntKind.i64 ((↑p : Int) + 1), .any, .any, .any, .any, .any, .any, .any, .any, .any, .any, .any, .any, .any, .any, .any, .any, .any, .any, .any, .any, .any, .any, .any, .any, .any, .any, .any, .any, .any, .any] [some (Blk.mk false (62 : TypeId) 4 true (List.map roE l)), some (Blk.mk true (62 : TypeId) 4 true (List.map roE (kpR l))), some (Blk.mk true 53 6 true (F (List.map rtOE (List.take (p + 1) (kpR l)))))] = bdSt F m l (kpR l) p' ∧ Nat.le p' (List.length (kpR l)) ∧ List.length (kpR l) + 1 - p' < List.length (kpR l) + 1 - p) ∧ (Decidable.decide ((↑p : Int) < (↑(List.length (kpR l)) : Int)) = false → ((m == 2) = true → 0 + List.length (List.take p (kpR l)) ≤ List.length (F (List.map rtOE (List.take p (kpR l)))) ∧ List.take (List.length (List.take p (kpR l))) (List.drop 0 (F (List.map rtOE (List.take p (kpR l))))) = List.map enE (deE (List.take (List.length (List.take p (kpR l))) (List.drop 0 (F (List.map rtOE (List.take p (kpR l))))))) ∧ List.length (deE (List.take (List.length (List.take p (kpR l))) (List.drop 0 (F (List.map rtOE (List.take p (kpR l))))))) ≤ 1000000 ∧ List.length (List.map enE (mrE (deE (List.take (List.length (List.take p (kpR l))) (List.drop 0 (F (List.map rtOE (List.take p (kpR l))))))))) = List.length es ∧ some (Blk.mk true (53 : TypeId) 6 true (List.map enE (mrE (deE (List.take (List.length (List.take p (kpR l))) (List.drop 0 (F (List.map rtOE (List.take p (kpR l)))))))))) = some (Blk.mk true (53 : TypeId) 6 true es)) ∧ ((m == 2) = false → 0 + List.length (List.take p (kpR l)) ≤ List.length (F (List.map rtOE (List.take p (kpR l)))) ∧ List.take (List.length (List.take p (kpR l))) (List.drop 0 (F (List.map rtOE (List.take p (kpR l))))) = List.map enE (deE (List.take (List.length (List.take p (kpR l))) (List.drop 0 (F (List.map rtOE (List.take p (kpR l))))))) ∧ List.length (deE (List.take (List.length (List.take p (kpR l))) (List.drop 0 (F (List.map rtOE (List.take p (kpR l))))))) ≤ 1000000 ∧ List.length (List.map enE (srE (deE (List.take (List.length (List.take p (kpR l))) (List.drop 0 (F (List.map rtOE (List.take p (kpR l))))))))) = List.length es ∧ some (Blk.mk true (53 : TypeId) 6 true (List.map enE (srE (deE (List.take (List.length (List.take p (kpR l))) (List.drop 0 (F (List.map rtOE (List.take p (kpR l)))))))))) = some (Blk.mk true (53 : TypeId) 6 true es)))) ∧ (Decidable.decide (m > 0) = false → (St.mk [AV.vsl 0 0 (List.length (List.map roE l)), AV.int IntKind.i64 m, .any, .any, .any, AV.vsl (List.length [some (Blk.mk false (62 : TypeId) 4 true (List.map roE l))]) 0 0, AV.int IntKind.i64 0, .any, .any, .any, .any, .any, .any, .any, .any, .any, .any, .any, .any, .any, .any, .any, .any, .any, .any, .any, .any, .any, .any, .any, .any, .any, .any, .any, .any, .any, .any] ([some (Blk.mk false (62 : TypeId) 4 true (List.map roE l))] ++ [some (Blk.mk true (53 : TypeId) 6 true [])]) = bdS0 F m l 0 ∧ Nat.le 0 (List.length l)) ∧ ∀ (p : Nat), Nat.le p (List.length l) → (Decidable.decide ((↑p : Int) < (↑(List.length (List.map roE l)) : Int)) = true → (0 ≤ (↑p : Int) ∧ (↑p : Int) < (↑(List.length (List.map roE l)) : Int)) ∧ Blk.read Proofs.Tryz.prog (Blk.mk false (62 : TypeId) 4 true (List.map roE l)) 62 (0 + Int.toNat (↑p : Int)) 0 = some (AV.agg [AV.w64 (Ro.p (at' l p)).1, AV.w64 (Ro.p (at' l p)).2, AV.int IntKind.i64 (Ro.p (at' l p)).3, AV.int IntKind.i64 (at' l p).2]) ∧ ((List.length (List.take p l) + 1) * 48 ≤ 140737488355328 ∧ List.length (List.take p l) + 1 ≤ 9223372036854775807 ∧ 0 + 1 ≤ List.length [AV.agg [AV.w64 ((Ro.p (at' l p)).1 &&& mkW (Ro.p (at' l p)).3), AV.w64 ((Ro.p (at' l p)).2 &&& mkW ((Ro.p (at' l p)).3 - 64)), AV.w64 (mkW (Ro.p (at' l p)).3), AV.w64 (mkW ((Ro.p (at' l p)).3 - 64)), AV.int IntKind.i64 (clamp (Ro.p (at' l p)).3), AV.int IntKind.i64 (at' l p).2]] ∧ List.length (List.take p l) ≤ List.length (F (List.map rtOE (List.take p l)))) ∧ List.take (List.length (List.take p l)) (F (List.map rtOE (List.take p l))) ++ [AV.agg [AV.w64 ((Ro.p (at' l p)).1 &&& mkW (Ro.p (at' l p)).3), AV.w64 ((Ro.p (at' l p)).2 &&& mkW ((Ro.p (at' l p)).3 - 64)), AV.w64 (mkW (Ro.p (at' l p)).3), AV.w64 (mkW ((Ro.p (at' l p)).3 - 64)), AV.int IntKind.i64 (clamp (Ro.p (at' l p)).3), AV.int IntKind.i64 (at' l p).2]] = F (List.map rtOE (List.take (p + 1) l)) ∧ inRange IntKind.i64 ((↑p : Int) + 1) ∧ ∃ (p' : Nat), St.mk [AV.vsl 0 0 (List.length (List.map roE l)), AV.int IntKind.i64 m, .any, .any, .any, AV.vsl (0 + 1) 0 (List.length (List.take p l) + 1), AV.int IntKind.i64 ((↑p : Int) + 1), .any, .any, .any, .any, .any, .any, .any, .any, .any, .any, .any, .any, .any, .any, .any, .any, .any, .any, .any, .any, .any, .any, .any, .any, .any, .any, .any, .any, .any, .any] [some (Blk.mk false (62 : TypeId) 4 true (List.map roE l)), some (Blk.mk true 53 6 true (F (List.map rtOE (List.take (p + 1) l))))] = bdS0 F m l p' ∧ Nat.le p' (List.length l) ∧ List.length l + 1 - p' < List.length l + 1 - p) ∧ (Decidable.decide ((↑p : Int) < (↑(List.length (List.map roE l)) : Int)) = false → ((m == 2) = true → 0 + List.length (List.take p l) ≤ List.length (F (List.map rtOE (List.take p l))) ∧ List.take (List.length (List.take p l)) (List.drop 0 (F (List.map rtOE (List.take p l)))) = List.map enE (deE (List.take (List.length (List.take p l)) (List.drop 0 (F (List.map rtOE (List.take p l)))))) ∧ List.length (deE (List.take (List.length (List.take p l)) (List.drop 0 (F (List.map rtOE (List.take p l)))))) ≤ 1000000 ∧ List.length (List.map enE (mrE (deE (List.take (List.length (List.take p l)) (List.drop 0 (F (List.map rtOE (List.take p l)))))))) = List.length es ∧ some (Blk.mk true (53 : TypeId) 6 true (List.map enE (mrE (deE (List.take (List.length (List.take p l)) (List.drop 0 (F (List.map rtOE (List.take p l))))))))) = some (Blk.mk true (53 : TypeId) 6 true es)) ∧ ((m == 2) = false → 0 + List.length (List.take p l) ≤ List.length (F (List.map rtOE (List.take p l))) ∧ List.take (List.length (List.take p l)) (List.drop 0 (F (List.map rtOE (List.take p l)))) = List.map enE (deE (List.take (List.length (List.take p l)) (List.drop 0 (F (List.map rtOE (List.take p l)))))) ∧ List.length (deE (List.take (List.length (List.take p l)) (List.drop 0 (F (List.map rtOE (List.take p l)))))) ≤ 1000000 ∧ List.length (List.map enE (srE (deE (List.take (List.length (List.take p l)) (List.drop 0 (F (List.map rtOE (List.take p l)))))))) = List.length es ∧ some (Blk.mk true (53 : TypeId) 6 true (List.map enE (srE (deE (List.take (List.length (List.take p l)) (List.drop 0 (F (List.map rtOE (List.take p l))))))))) = some (Blk.mk true (53 : TypeId) 6 true es))))))) := by kernel_rfl

theorem rbuild10Cs_ok : ∀ e ∈ rbuild10Cs, SpecOK Tryz.prog e.1 e.2 := by
  intro e he
  simp only [rbuild10Cs, List.mem_cons, List.not_mem_nil, or_false] at he
  rcases he with rfl | rfl | rfl | rfl
  · exact rkeep_ok
  · exact rof10_ok
  · exact rmerge10_ok
  · exact rsort_ok

theorem rbuild10_ok : SpecOK Tryz.prog 8 (genSpec [pRefR, none] rbuild10F) := by
  refine genSpec_ok (run_ok (l := rbuild10Cs) rbuild10Cs_ok mixed noNG) fun l R hF => ?_
  unfold rbuild10F at hF
  split at hF
  · rename_i r_l m
    obtain ⟨hr_l, hl, hF⟩ := hF
    generalize deR r_l = l at hr_l hl hF
    subst hr_l
    refine ⟨_, hF, trivial, (bdH (List.map enE) m l), ?_⟩
    show run rbuild10Cs Tryz.prog _ [.vsl 0 0 (l.map roE).length, .int .i64 m] [some ⟨false, (pRefR.getD (0, 0)).1, (pRefR.getD (0, 0)).2, true, (l.map roE)⟩] _ _
    rw [rbuild10_run]
    have T := tbR_iff.1 hl
    have hm := T.most
    have hk := (kpR_sub l).length_le
    refine ⟨fun h => by rw [bd_not (.inl (of_decide_eq_true h))]; rfl, fun h0 => ⟨fun h => by rw [bd_not (.inr (of_decide_eq_true h))]; rfl, fun h2 => ?_⟩⟩
    have h0 := of_decide_eq_false h0
    have h2 := of_decide_eq_false h2
    refine ⟨fun h => ?_, fun h => ?_⟩
    · have h := of_decide_eq_true h
      simp only [whole_row, deR_map]
      refine ⟨by omega, trivial, hl, ⟨trivial, trivial⟩, ⟨by unfold bdSt; rw [List.length_map]; rfl, Nat.zero_le _⟩, ?_⟩
      intro p (hp0 : p ≤ (kpR l).length)
      have ht : ((kpR l).take p).length = p := by rw [List.length_take]; omega
      have htm : (((kpR l).take p).map rtOE).length = p := by rw [List.length_map]; exact ht
      have htn : ((((kpR l).take p).map rtOE).map enE).length = p := by rw [List.length_map]; exact htm
      refine ⟨fun hlt => ?_, fun hge => ?_⟩
      · have hp : p < (kpR l).length := by have := of_decide_eq_true hlt; omega
        have ht1 : ((kpR l).take (p + 1)).length = p + 1 := by rw [List.length_take]; omega
        refine ⟨by omega, read_rows (by omega) (by rw [List.length_map]; omega) (rr_whole _), ⟨by omega, by omega, Nat.le_refl _, by omega⟩, ?_, inR (by omega) (by omega), p + 1, ?_, hp, by omega⟩
        · rw [List.take_of_length_le (by omega), take_one hp, List.map_append, List.map_append]; rfl
        · unfold bdSt
          rw [ht, ht1]; rfl
      · have hp : p = (kpR l).length := by have := of_decide_eq_false hge; omega
        subst hp
        have e : List.take ((kpR l).take (kpR l).length).length (List.drop 0 ((((kpR l).take (kpR l).length).map rtOE).map enE)) = ((((kpR l).take (kpR l).length).map rtOE).map enE) := by
          rw [List.drop_zero]; exact List.take_of_length_le (by omega)
        rw [e, deE_map, List.take_length]
        refine ⟨fun h3 => ?_, fun h3 => ?_⟩
        · have h3 : m = 2 := by simpa using h3
          have : bdE l m = mrE ((kpR l).map rtOE) := by unfold bdE; rw [if_neg (by omega), if_neg (by omega), if_pos h3]
          rw [this]
          exact ⟨by rw [List.length_map, List.length_map]; omega, rfl, by rw [List.length_map]; omega, rfl, rfl⟩
        · have h3 : m ≠ 2 := by simpa using h3
          have : bdE l m = srE ((kpR l).map rtOE) := by unfold bdE; rw [if_neg (by omega), if_pos (by omega)]
          rw [this]
          exact ⟨by rw [List.length_map, List.length_map]; omega, rfl, by rw [List.length_map]; omega, rfl, rfl⟩
    · have h := of_decide_eq_false h
      have h1 : m = 0 := by omega
      subst h1
      refine ⟨⟨rfl, Nat.zero_le _⟩, ?_⟩
      intro p (hp0 : p ≤ l.length)
      have ht : (l.take p).length = p := by rw [List.length_take]; omega
      have htm : ((l.take p).map rtOE).length = p := by rw [List.length_map]; exact ht
      have htn : (((l.take p).map rtOE).map enE).length = p := by rw [List.length_map]; exact htm
      have hlm : (l.map roE).length = l.length := List.length_map _
      refine ⟨fun hlt => ?_, fun hge => ?_⟩
      · have hp : p < l.length := by have := of_decide_eq_true hlt; omega
        have ht1 : (l.take (p + 1)).length = p + 1 := by rw [List.length_take]; omega
        refine ⟨by omega, read_rows (by omega) (by omega) (rr_whole _), ⟨by omega, by omega, Nat.le_refl _, by omega⟩, ?_, inR (by omega) (by omega), p + 1, ?_, hp, by omega⟩
        · rw [List.take_of_length_le (by omega), take_one hp, List.map_append, List.map_append]; rfl
        · unfold bdS0
          rw [ht, ht1]; rfl
      · have hp : p = l.length := by have := of_decide_eq_false hge; omega
        subst hp
        have e : List.take (l.take l.length).length (List.drop 0 (((l.take l.length).map rtOE).map enE)) = (((l.take l.length).map rtOE).map enE) := by
          rw [List.drop_zero]; exact List.take_of_length_le (by omega)
        rw [e, deE_map, List.take_length]
        have : bdE l 0 = srE (l.map rtOE) := by unfold bdE; rw [if_pos rfl]
        rw [this]
        exact ⟨fun h3 => (by cases h3), fun _ => ⟨by rw [List.length_map, List.length_map]; omega, rfl, by rw [List.length_map]; omega, rfl, rfl⟩⟩
  · exact hF.elim


end Go.Proofs.YtnjbgbdcbejciaaGreat.L1
end

section
/-
  Layer 10: a table's entries: plain mathematics.
-/
namespace Go.Proofs.YtnjbgbdcbejciaaGreat.L1
open Go.Sx Go.Sx.M

theorem bd_len0 (l : List Ro) : (bdE l 0).length = l.length := by
  unfold bdE
  rw [if_pos rfl, srE_length, List.length_map]
theorem bd_len1 (l : List Ro) : (bdE l 1).length = (kpR l).length := by
  unfold bdE
  rw [if_neg (by decide), if_pos rfl, srE_length, List.length_map]
theorem bd_len2 (l : List Ro) : (bdE l 2).length ≤ (kpR l).length := by
  unfold bdE
  rw [if_neg (by decide), if_neg (by decide), if_pos rfl]
  have := (mrE_length ((kpR l).map rtOE)).1
  rw [List.length_map] at this
  exact this
theorem bd_len (l : List Ro) (m : Int) : (bdE l m).length ≤ l.length := by
  have hk := (kpR_sub l).length_le
  by_cases h0 : m = 0
  · subst h0; rw [bd_len0]; exact Nat.le_refl _
  · by_cases h1 : m = 1
    · subst h1; rw [bd_len1]; exact hk
    · by_cases h2 : m = 2
      · subst h2; exact Nat.le_trans (bd_len2 l) hk
      · rw [show bdE l m = [] from by unfold bdE; rw [if_neg h0, if_neg h1, if_neg h2]]
        exact Nat.zero_le _

end Go.Proofs.YtnjbgbdcbejciaaGreat.L1
end

section
/-
  Layer 10: what the contracts of the program's calls say; what the document fixes of two halves.
-/
namespace Go.Proofs.YtnjbgbdcbejciaaGreat.L1
open Go.Sx Go.Sx.M

def gmerge10F : List Arg → (Res → Prop) → Prop
  | [.row r_l], R => r_l = (deE r_l).map enE ∧ (deE r_l).length ≤ 1000000 ∧ R (.vrow 46 6 ((mrE (deE r_l)).map enE))
  | _, _ => False

def gsimple10F : List Arg → (Res → Prop) → Prop
  | [.row r_l], R => r_l = (deE r_l).map enE ∧ (deE r_l).length ≤ 1000000 ∧ R (.v (.bool (siE (deE r_l))))
  | _, _ => False

def gbuild10F : List Arg → (Res → Prop) → Prop
  | [.row r_l, .v (.int .i64 m)], R => r_l = (deR r_l).map roE ∧ ((deR r_l).length ≤ 1000000 ∧ tbR 128 (deR r_l) = true) ∧ R (.vrow 46 6 ((bdE (deR r_l) m).map enE))
  | _, _ => False

def gmode10F : List Arg → (Res → Prop) → Prop
  | [.v (.int .i64 m)], R => R (.v (.bool (decide (m ≥ 0) && decide (m ≤ 2))))
  | _, _ => False

noncomputable def awake10Cs : List (FuncId × Sx.Spec) := [(12, genSpec [none, none] makeF), (7, genSpec [pRo, none] gbuild10F), (13, genSpec [none] wfreeF), (14, genSpec [pEn] gsimple10F), (10, genSpec [none] gmode10F)]

def aw10H : List Hint := [.br true, .cell (.int .i64 9), .br true, .cell (.agg [.w64 720575940379279360#64, .w64 0#64, .w64 18374686479671623680#64, .w64 0#64]), .br true, .br true, .br true]

theorem awake10_run (_u : Unit) : run awake10Cs Tryz.prog 5 [] [] aw10H (comesTo (.bool true)) =
    ([AV.agg [AV.w64 (BitVec.ofInt 64 720575940379279360 &&& mkW 9), AV.w64 (BitVec.ofInt 64 0 &&& mkW (9 - 64)), AV.int IntKind.i64 (clamp 9), AV.int IntKind.i64 1], AV.agg [AV.w64 (BitVec.ofInt 64 756604737398243328 &&& mkW 9), AV.w64 (BitVec.ofInt 64 0 &&& mkW (9 - 64)), AV.int IntKind.i64 (clamp 9), AV.int IntKind.i64 1]] = [AV.agg [AV.w64 (BitVec.ofInt 64 720575940379279360 &&& mkW 9), AV.w64 (BitVec.ofInt 64 0 &&& mkW (9 - 64)), AV.int IntKind.i64 (clamp 9), AV.int IntKind.i64 1], AV.agg [AV.w64 (BitVec.ofInt 64 756604737398243328 &&& mkW 9), AV.w64 (BitVec.ofInt 64 0 &&& mkW (9 - 64)), AV.int IntKind.i64 (clamp 9), AV.int IntKind.i64 1]] ∧ (List.length (deR [AV.agg [AV.w64 (BitVec.ofInt 64 720575940379279360 &&& mkW 9), AV.w64 (BitVec.ofInt 64 0 &&& mkW (9 - 64)), AV.int IntKind.i64 (clamp 9), AV.int IntKind.i64 1], AV.agg [AV.w64 (BitVec.ofInt 64 756604737398243328 &&& mkW 9), AV.w64 (BitVec.ofInt 64 0 &&& mkW (9 - 64)), AV.int IntKind.i64 (clamp 9), AV.int IntKind.i64 1]]) ≤ 1000000 ∧ tbR 128 (deR [AV.agg [AV.w64 (BitVec.ofInt 64 720575940379279360 &&& mkW 9), AV.w64 (BitVec.ofInt 64 0 &&& mkW (9 - 64)), AV.int IntKind.i64 (clamp 9), AV.int IntKind.i64 1], AV.agg [AV.w64 (BitVec.ofInt 64 756604737398243328 &&& mkW 9), AV.w64 (BitVec.ofInt 64 0 &&& mkW (9 - 64)), AV.int IntKind.i64 (clamp 9), AV.int IntKind.i64 1]]) = true) ∧ ((↑(List.length [AV.agg [AV.w64 (BitVec.ofInt 64 720575940379279360 &&& mkW 9 &&& mkW (clamp 9) &&& (mkW (clamp 9) ^^^ (BitVec.ofInt 64 720575940379279360 &&& mkW 9 &&& mkW (clamp 9) ^^^ BitVec.ofInt 64 756604737398243328 &&& mkW 9 &&& mkW (clamp 9)) &&& mkW (clamp 9))), AV.w64 (BitVec.ofInt 64 0 &&& mkW (9 - 64) &&& mkW (clamp 9 - 64) &&& (mkW (clamp 9 - 64) ^^^ (BitVec.ofInt 64 0 &&& mkW (9 - 64) &&& mkW (clamp 9 - 64) ^^^ BitVec.ofInt 64 0 &&& mkW (9 - 64) &&& mkW (clamp 9 - 64)) &&& mkW (clamp 9 - 64))), AV.w64 (mkW (clamp 9) ^^^ (BitVec.ofInt 64 720575940379279360 &&& mkW 9 &&& mkW (clamp 9) ^^^ BitVec.ofInt 64 756604737398243328 &&& mkW 9 &&& mkW (clamp 9)) &&& mkW (clamp 9)), AV.w64 (mkW (clamp 9 - 64) ^^^ (BitVec.ofInt 64 0 &&& mkW (9 - 64) &&& mkW (clamp 9 - 64) ^^^ BitVec.ofInt 64 0 &&& mkW (9 - 64) &&& mkW (clamp 9 - 64)) &&& mkW (clamp 9 - 64)), AV.int IntKind.i64 (clamp (clamp 9)), AV.int IntKind.i64 1]]) : Int) == 1) = true ∧ (0 ≤ 0 ∧ 0 < (↑(List.length [AV.agg [AV.w64 (BitVec.ofInt 64 720575940379279360 &&& mkW 9 &&& mkW (clamp 9) &&& (mkW (clamp 9) ^^^ (BitVec.ofInt 64 720575940379279360 &&& mkW 9 &&& mkW (clamp 9) ^^^ BitVec.ofInt 64 756604737398243328 &&& mkW 9 &&& mkW (clamp 9)) &&& mkW (clamp 9))), AV.w64 (BitVec.ofInt 64 0 &&& mkW (9 - 64) &&& mkW (clamp 9 - 64) &&& (mkW (clamp 9 - 64) ^^^ (BitVec.ofInt 64 0 &&& mkW (9 - 64) &&& mkW (clamp 9 - 64) ^^^ BitVec.ofInt 64 0 &&& mkW (9 - 64) &&& mkW (clamp 9 - 64)) &&& mkW (clamp 9 - 64))), AV.w64 (mkW (clamp 9) ^^^ (BitVec.ofInt 64 720575940379279360 &&& mkW 9 &&& mkW (clamp 9) ^^^ BitVec.ofInt 64 756604737398243328 &&& mkW 9 &&& mkW (clamp 9)) &&& mkW (clamp 9)), AV.w64 (mkW (clamp 9 - 64) ^^^ (BitVec.ofInt 64 0 &&& mkW (9 - 64) &&& mkW (clamp 9 - 64) ^^^ BitVec.ofInt 64 0 &&& mkW (9 - 64) &&& mkW (clamp 9 - 64)) &&& mkW (clamp 9 - 64)), AV.int IntKind.i64 (clamp (clamp 9)), AV.int IntKind.i64 1]]) : Int)) ∧ Blk.read Proofs.Tryz.prog (Blk.mk true (46 : TypeId) 6 true [AV.agg [AV.w64 (BitVec.ofInt 64 720575940379279360 &&& mkW 9 &&& mkW (clamp 9) &&& (mkW (clamp 9) ^^^ (BitVec.ofInt 64 720575940379279360 &&& mkW 9 &&& mkW (clamp 9) ^^^ BitVec.ofInt 64 756604737398243328 &&& mkW 9 &&& mkW (clamp 9)) &&& mkW (clamp 9))), AV.w64 (BitVec.ofInt 64 0 &&& mkW (9 - 64) &&& mkW (clamp 9 - 64) &&& (mkW (clamp 9 - 64) ^^^ (BitVec.ofInt 64 0 &&& mkW (9 - 64) &&& mkW (clamp 9 - 64) ^^^ BitVec.ofInt 64 0 &&& mkW (9 - 64) &&& mkW (clamp 9 - 64)) &&& mkW (clamp 9 - 64))), AV.w64 (mkW (clamp 9) ^^^ (BitVec.ofInt 64 720575940379279360 &&& mkW 9 &&& mkW (clamp 9) ^^^ BitVec.ofInt 64 756604737398243328 &&& mkW 9 &&& mkW (clamp 9)) &&& mkW (clamp 9)), AV.w64 (mkW (clamp 9 - 64) ^^^ (BitVec.ofInt 64 0 &&& mkW (9 - 64) &&& mkW (clamp 9 - 64) ^^^ BitVec.ofInt 64 0 &&& mkW (9 - 64) &&& mkW (clamp 9 - 64)) &&& mkW (clamp 9 - 64)), AV.int IntKind.i64 (clamp (clamp 9)), AV.int IntKind.i64 1]]) 3 (0 + Int.toNat 0) (0 + 4) = some (AV.int IntKind.i64 9) ∧ (9 == 9) = true ∧ (0 ≤ 0 ∧ 0 < (↑(List.length [AV.agg [AV.w64 (BitVec.ofInt 64 720575940379279360 &&& mkW 9 &&& mkW (clamp 9) &&& (mkW (clamp 9) ^^^ (BitVec.ofInt 64 720575940379279360 &&& mkW 9 &&& mkW (clamp 9) ^^^ BitVec.ofInt 64 756604737398243328 &&& mkW 9 &&& mkW (clamp 9)) &&& mkW (clamp 9))), AV.w64 (BitVec.ofInt 64 0 &&& mkW (9 - 64) &&& mkW (clamp 9 - 64) &&& (mkW (clamp 9 - 64) ^^^ (BitVec.ofInt 64 0 &&& mkW (9 - 64) &&& mkW (clamp 9 - 64) ^^^ BitVec.ofInt 64 0 &&& mkW (9 - 64) &&& mkW (clamp 9 - 64)) &&& mkW (clamp 9 - 64))), AV.w64 (mkW (clamp 9) ^^^ (BitVec.ofInt 64 720575940379279360 &&& mkW 9 &&& mkW (clamp 9) ^^^ BitVec.ofInt 64 756604737398243328 &&& mkW 9 &&& mkW (clamp 9)) &&& mkW (clamp 9)), AV.w64 (mkW (clamp 9 - 64) ^^^ (BitVec.ofInt 64 0 &&& mkW (9 - 64) &&& mkW (clamp 9 - 64) ^^^ BitVec.ofInt 64 0 &&& mkW (9 - 64) &&& mkW (clamp 9 - 64)) &&& mkW (clamp 9 - 64)), AV.int IntKind.i64 (clamp (clamp 9)), AV.int IntKind.i64 1]]) : Int)) ∧ Blk.read Proofs.Tryz.prog (Blk.mk true (46 : TypeId) 6 true [AV.agg [AV.w64 (BitVec.ofInt 64 720575940379279360 &&& mkW 9 &&& mkW (clamp 9) &&& (mkW (clamp 9) ^^^ (BitVec.ofInt 64 720575940379279360 &&& mkW 9 &&& mkW (clamp 9) ^^^ BitVec.ofInt 64 756604737398243328 &&& mkW 9 &&& mkW (clamp 9)) &&& mkW (clamp 9))), AV.w64 (BitVec.ofInt 64 0 &&& mkW (9 - 64) &&& mkW (clamp 9 - 64) &&& (mkW (clamp 9 - 64) ^^^ (BitVec.ofInt 64 0 &&& mkW (9 - 64) &&& mkW (clamp 9 - 64) ^^^ BitVec.ofInt 64 0 &&& mkW (9 - 64) &&& mkW (clamp 9 - 64)) &&& mkW (clamp 9 - 64))), AV.w64 (mkW (clamp 9) ^^^ (BitVec.ofInt 64 720575940379279360 &&& mkW 9 &&& mkW (clamp 9) ^^^ BitVec.ofInt 64 756604737398243328 &&& mkW 9 &&& mkW (clamp 9)) &&& mkW (clamp 9)), AV.w64 (mkW (clamp 9 - 64) ^^^ (BitVec.ofInt 64 0 &&& mkW (9 - 64) &&& mkW (clamp 9 - 64) ^^^ BitVec.ofInt 64 0 &&& mkW (9 - 64) &&& mkW (clamp 9 - 64)) &&& mkW (clamp 9 - 64)), AV.int IntKind.i64 (clamp (clamp 9)), AV.int IntKind.i64 1]]) 44 (0 + Int.toNat 0) (0 + 0) = some (AV.agg [AV.w64 (BitVec.ofNat 64 720575940379279360), AV.w64 (BitVec.ofNat 64 0), AV.w64 (BitVec.ofNat 64 18374686479671623680), AV.w64 (BitVec.ofNat 64 0)]) ∧ ((↑(cnt 64 (BitVec.toNat (~~~BitVec.ofNat 64 18374686479671623680))) : Int) + (↑(cnt 64 (BitVec.toNat (~~~BitVec.ofNat 64 0))) : Int) == 120) = true ∧ [AV.agg [AV.w64 (BitVec.ofInt 64 720575940379279360 &&& mkW 9), AV.w64 (BitVec.ofInt 64 0 &&& mkW (9 - 64)), AV.int IntKind.i64 (clamp 9), AV.int IntKind.i64 1], AV.agg [AV.w64 (BitVec.ofInt 64 756604737398243328 &&& mkW 9), AV.w64 (BitVec.ofInt 64 0 &&& mkW (9 - 64)), AV.int IntKind.i64 (clamp 9), AV.int IntKind.i64 1]] = [AV.agg [AV.w64 (BitVec.ofInt 64 720575940379279360 &&& mkW 9), AV.w64 (BitVec.ofInt 64 0 &&& mkW (9 - 64)), AV.int IntKind.i64 (clamp 9), AV.int IntKind.i64 1], AV.agg [AV.w64 (BitVec.ofInt 64 756604737398243328 &&& mkW 9), AV.w64 (BitVec.ofInt 64 0 &&& mkW (9 - 64)), AV.int IntKind.i64 (clamp 9), AV.int IntKind.i64 1]] ∧ (List.length (deR [AV.agg [AV.w64 (BitVec.ofInt 64 720575940379279360 &&& mkW 9), AV.w64 (BitVec.ofInt 64 0 &&& mkW (9 - 64)), AV.int IntKind.i64 (clamp 9), AV.int IntKind.i64 1], AV.agg [AV.w64 (BitVec.ofInt 64 756604737398243328 &&& mkW 9), AV.w64 (BitVec.ofInt 64 0 &&& mkW (9 - 64)), AV.int IntKind.i64 (clamp 9), AV.int IntKind.i64 1]]) ≤ 1000000 ∧ tbR 128 (deR [AV.agg [AV.w64 (BitVec.ofInt 64 720575940379279360 &&& mkW 9), AV.w64 (BitVec.ofInt 64 0 &&& mkW (9 - 64)), AV.int IntKind.i64 (clamp 9), AV.int IntKind.i64 1], AV.agg [AV.w64 (BitVec.ofInt 64 756604737398243328 &&& mkW 9), AV.w64 (BitVec.ofInt 64 0 &&& mkW (9 - 64)), AV.int IntKind.i64 (clamp 9), AV.int IntKind.i64 1]]) = true) ∧ ((↑(List.length [AV.agg [AV.w64 (BitVec.ofInt 64 720575940379279360 &&& mkW 9 &&& mkW (clamp 9)), AV.w64 (BitVec.ofInt 64 0 &&& mkW (9 - 64) &&& mkW (clamp 9 - 64)), AV.w64 (mkW (clamp 9)), AV.w64 (mkW (clamp 9 - 64)), AV.int IntKind.i64 (clamp (clamp 9)), AV.int IntKind.i64 1], AV.agg [AV.w64 (BitVec.ofInt 64 756604737398243328 &&& mkW 9 &&& mkW (clamp 9)), AV.w64 (BitVec.ofInt 64 0 &&& mkW (9 - 64) &&& mkW (clamp 9 - 64)), AV.w64 (mkW (clamp 9)), AV.w64 (mkW (clamp 9 - 64)), AV.int IntKind.i64 (clamp (clamp 9)), AV.int IntKind.i64 1]]) : Int) == 2) = true ∧ 0 + List.length [AV.agg [AV.w64 (BitVec.ofInt 64 720575940379279360 &&& mkW 9 &&& mkW (clamp 9) &&& (mkW (clamp 9) ^^^ (BitVec.ofInt 64 720575940379279360 &&& mkW 9 &&& mkW (clamp 9) ^^^ BitVec.ofInt 64 756604737398243328 &&& mkW 9 &&& mkW (clamp 9)) &&& mkW (clamp 9))), AV.w64 (BitVec.ofInt 64 0 &&& mkW (9 - 64) &&& mkW (clamp 9 - 64) &&& (mkW (clamp 9 - 64) ^^^ (BitVec.ofInt 64 0 &&& mkW (9 - 64) &&& mkW (clamp 9 - 64) ^^^ BitVec.ofInt 64 0 &&& mkW (9 - 64) &&& mkW (clamp 9 - 64)) &&& mkW (clamp 9 - 64))), AV.w64 (mkW (clamp 9) ^^^ (BitVec.ofInt 64 720575940379279360 &&& mkW 9 &&& mkW (clamp 9) ^^^ BitVec.ofInt 64 756604737398243328 &&& mkW 9 &&& mkW (clamp 9)) &&& mkW (clamp 9)), AV.w64 (mkW (clamp 9 - 64) ^^^ (BitVec.ofInt 64 0 &&& mkW (9 - 64) &&& mkW (clamp 9 - 64) ^^^ BitVec.ofInt 64 0 &&& mkW (9 - 64) &&& mkW (clamp 9 - 64)) &&& mkW (clamp 9 - 64)), AV.int IntKind.i64 (clamp (clamp 9)), AV.int IntKind.i64 1]] ≤ List.length [AV.agg [AV.w64 (BitVec.ofInt 64 720575940379279360 &&& mkW 9 &&& mkW (clamp 9) &&& (mkW (clamp 9) ^^^ (BitVec.ofInt 64 720575940379279360 &&& mkW 9 &&& mkW (clamp 9) ^^^ BitVec.ofInt 64 756604737398243328 &&& mkW 9 &&& mkW (clamp 9)) &&& mkW (clamp 9))), AV.w64 (BitVec.ofInt 64 0 &&& mkW (9 - 64) &&& mkW (clamp 9 - 64) &&& (mkW (clamp 9 - 64) ^^^ (BitVec.ofInt 64 0 &&& mkW (9 - 64) &&& mkW (clamp 9 - 64) ^^^ BitVec.ofInt 64 0 &&& mkW (9 - 64) &&& mkW (clamp 9 - 64)) &&& mkW (clamp 9 - 64))), AV.w64 (mkW (clamp 9) ^^^ (BitVec.ofInt 64 720575940379279360 &&& mkW 9 &&& mkW (clamp 9) ^^^ BitVec.ofInt 64 756604737398243328 &&& mkW 9 &&& mkW (clamp 9)) &&& mkW (clamp 9)), AV.w64 (mkW (clamp 9 - 64) ^^^ (BitVec.ofInt 64 0 &&& mkW (9 - 64) &&& mkW (clamp 9 - 64) ^^^ BitVec.ofInt 64 0 &&& mkW (9 - 64) &&& mkW (clamp 9 - 64)) &&& mkW (clamp 9 - 64)), AV.int IntKind.i64 (clamp (clamp 9)), AV.int IntKind.i64 1]] ∧ [AV.agg [AV.w64 (BitVec.ofInt 64 720575940379279360 &&& mkW 9 &&& mkW (clamp 9) &&& (mkW (clamp 9) ^^^ (BitVec.ofInt 64 720575940379279360 &&& mkW 9 &&& mkW (clamp 9) ^^^ BitVec.ofInt 64 756604737398243328 &&& mkW 9 &&& mkW (clamp 9)) &&& mkW (clamp 9))), AV.w64 (BitVec.ofInt 64 0 &&& mkW (9 - 64) &&& mkW (clamp 9 - 64) &&& (mkW (clamp 9 - 64) ^^^ (BitVec.ofInt 64 0 &&& mkW (9 - 64) &&& mkW (clamp 9 - 64) ^^^ BitVec.ofInt 64 0 &&& mkW (9 - 64) &&& mkW (clamp 9 - 64)) &&& mkW (clamp 9 - 64))), AV.w64 (mkW (clamp 9) ^^^ (BitVec.ofInt 64 720575940379279360 &&& mkW 9 &&& mkW (clamp 9) ^^^ BitVec.ofInt 64 756604737398243328 &&& mkW 9 &&& mkW (clamp 9)) &&& mkW (clamp 9)), AV.w64 (mkW (clamp 9 - 64) ^^^ (BitVec.ofInt 64 0 &&& mkW (9 - 64) &&& mkW (clamp 9 - 64) ^^^ BitVec.ofInt 64 0 &&& mkW (9 - 64) &&& mkW (clamp 9 - 64)) &&& mkW (clamp 9 - 64)), AV.int IntKind.i64 (clamp (clamp 9)), AV.int IntKind.i64 1]] = [AV.agg [AV.w64 (BitVec.ofInt 64 720575940379279360 &&& mkW 9 &&& mkW (clamp 9) &&& (mkW (clamp 9) ^^^ (BitVec.ofInt 64 720575940379279360 &&& mkW 9 &&& mkW (clamp 9) ^^^ BitVec.ofInt 64 756604737398243328 &&& mkW 9 &&& mkW (clamp 9)) &&& mkW (clamp 9))), AV.w64 (BitVec.ofInt 64 0 &&& mkW (9 - 64) &&& mkW (clamp 9 - 64) &&& (mkW (clamp 9 - 64) ^^^ (BitVec.ofInt 64 0 &&& mkW (9 - 64) &&& mkW (clamp 9 - 64) ^^^ BitVec.ofInt 64 0 &&& mkW (9 - 64) &&& mkW (clamp 9 - 64)) &&& mkW (clamp 9 - 64))), AV.w64 (mkW (clamp 9) ^^^ (BitVec.ofInt 64 720575940379279360 &&& mkW 9 &&& mkW (clamp 9) ^^^ BitVec.ofInt 64 756604737398243328 &&& mkW 9 &&& mkW (clamp 9)) &&& mkW (clamp 9)), AV.w64 (mkW (clamp 9 - 64) ^^^ (BitVec.ofInt 64 0 &&& mkW (9 - 64) &&& mkW (clamp 9 - 64) ^^^ BitVec.ofInt 64 0 &&& mkW (9 - 64) &&& mkW (clamp 9 - 64)) &&& mkW (clamp 9 - 64)), AV.int IntKind.i64 (clamp (clamp 9)), AV.int IntKind.i64 1]] ∧ List.length (deE [AV.agg [AV.w64 (BitVec.ofInt 64 720575940379279360 &&& mkW 9 &&& mkW (clamp 9) &&& (mkW (clamp 9) ^^^ (BitVec.ofInt 64 720575940379279360 &&& mkW 9 &&& mkW (clamp 9) ^^^ BitVec.ofInt 64 756604737398243328 &&& mkW 9 &&& mkW (clamp 9)) &&& mkW (clamp 9))), AV.w64 (BitVec.ofInt 64 0 &&& mkW (9 - 64) &&& mkW (clamp 9 - 64) &&& (mkW (clamp 9 - 64) ^^^ (BitVec.ofInt 64 0 &&& mkW (9 - 64) &&& mkW (clamp 9 - 64) ^^^ BitVec.ofInt 64 0 &&& mkW (9 - 64) &&& mkW (clamp 9 - 64)) &&& mkW (clamp 9 - 64))), AV.w64 (mkW (clamp 9) ^^^ (BitVec.ofInt 64 720575940379279360 &&& mkW 9 &&& mkW (clamp 9) ^^^ BitVec.ofInt 64 756604737398243328 &&& mkW 9 &&& mkW (clamp 9)) &&& mkW (clamp 9)), AV.w64 (mkW (clamp 9 - 64) ^^^ (BitVec.ofInt 64 0 &&& mkW (9 - 64) &&& mkW (clamp 9 - 64) ^^^ BitVec.ofInt 64 0 &&& mkW (9 - 64) &&& mkW (clamp 9 - 64)) &&& mkW (clamp 9 - 64)), AV.int IntKind.i64 (clamp (clamp 9)), AV.int IntKind.i64 1]]) ≤ 1000000 ∧ siE (deE [AV.agg [AV.w64 (BitVec.ofInt 64 720575940379279360 &&& mkW 9 &&& mkW (clamp 9) &&& (mkW (clamp 9) ^^^ (BitVec.ofInt 64 720575940379279360 &&& mkW 9 &&& mkW (clamp 9) ^^^ BitVec.ofInt 64 756604737398243328 &&& mkW 9 &&& mkW (clamp 9)) &&& mkW (clamp 9))), AV.w64 (BitVec.ofInt 64 0 &&& mkW (9 - 64) &&& mkW (clamp 9 - 64) &&& (mkW (clamp 9 - 64) ^^^ (BitVec.ofInt 64 0 &&& mkW (9 - 64) &&& mkW (clamp 9 - 64) ^^^ BitVec.ofInt 64 0 &&& mkW (9 - 64) &&& mkW (clamp 9 - 64)) &&& mkW (clamp 9 - 64))), AV.w64 (mkW (clamp 9) ^^^ (BitVec.ofInt 64 720575940379279360 &&& mkW 9 &&& mkW (clamp 9) ^^^ BitVec.ofInt 64 756604737398243328 &&& mkW 9 &&& mkW (clamp 9)) &&& mkW (clamp 9)), AV.w64 (mkW (clamp 9 - 64) ^^^ (BitVec.ofInt 64 0 &&& mkW (9 - 64) &&& mkW (clamp 9 - 64) ^^^ BitVec.ofInt 64 0 &&& mkW (9 - 64) &&& mkW (clamp 9 - 64)) &&& mkW (clamp 9 - 64)), AV.int IntKind.i64 (clamp (clamp 9)), AV.int IntKind.i64 1]]) = true ∧ AV.bool (Decidable.decide (2 ≥ 0) && Decidable.decide (2 ≤ 2)) = AV.bool true) := by kernel_rfl

theorem awake10_law : ∃ hs, run awake10Cs Tryz.prog 5 [] [] hs (comesTo (.bool true)) := by
  refine ⟨aw10H, ?_⟩
  rw [awake10_run ()]
  repeat' (apply And.intro)
  all_goals first | kernel_rfl | exact of_decide_eq_true (by kernel_rfl)

theorem awake_ex {C : Sx.Call} (hC : COK Tryz.prog false C) {f : FuncId} (h : ∃ hs, C f [] [] hs (comesTo (.bool true))) : SpecOK Tryz.prog f awakeSpec := by
  obtain ⟨hs, r⟩ := h
  exact awake_ok hC r

theorem awake10_of (h : ∀ e ∈ awake10Cs, SpecOK Tryz.prog e.1 e.2) : SpecOK Tryz.prog 5 awakeSpec := by
  exact awake_ex (run_ok (l := awake10Cs) h mixed noNG) awake10_law

noncomputable def l10Cs : List (FuncId × Sx.Spec) :=
  (5, awakeSpec) ::
  (15, genSpec [pEn] of5F) ::
  (6, genSpec [pEn, pRefE] same10F) ::
  (18, genSpec [pEn] gmerge10F) ::
  (14, genSpec [pEn] gsimple10F) ::
  (7, genSpec [pRo, none] gbuild10F) ::
  (10, genSpec [none] gmode10F) ::
  (21, genSpec [pRefE] rmerge10F) ::
  (8, genSpec [pRefR, none] rbuild10F) ::
  (4, genSpec [pRo] table9F) ::
  (9, genSpec [pRo] of6F) ::
  []

end Go.Proofs.YtnjbgbdcbejciaaGreat.L1
end

