/-
  Texts in one: L10A L10B L10M L10D.
-/
import Derived.Test.YtnjbgbdcbejciaaMa
import Derived.Test.YtnjbgbdcbejciaaL4I
import Derived.Test.YtnjbgbdcbejciaaL5a
import Derived.Test.YtnjbgbdcbejciaaL9a
import Derived.Test.YtnjbgbdcbejciaaL2S

section
/-
  Layer 10: the document's Simple, Merge, Of.
-/
namespace Go.Proofs.Ytnjbgbdcbejciaa.L1
open Go.Sx Go.Sx.M

def szS (l : List En) (p : Nat) : St := ⟨[.vsl 0 0 (l.map enE).length, .any, .any, .int .i64 p, .any, .any, .any, .any, .any, .any, .any, .any, .any, .any, .any, .any, .any, .any, .any, .any, .any, .any, .any, .any, .any, .any, .any, .any, .any, .any, .any, .any, .any, .any, .any, .any, .any, .any, .any, .any], [some ⟨false, 54, 6, true, l.map enE⟩]⟩
def szS2 (l : List En) (p k : Nat) : St := ⟨[.vsl 0 0 (l.map enE).length, .any, .any, .int .i64 p, .int .i64 k, .any, .any, .any, .any, .any, .any, .any, .any, .any, .any, .any, .any, .any, .any, .any, .any, .any, .any, .any, .any, .any, .any, .any, .any, .any, .any, .any, .any, .any, .any, .any, .any, .any, .any, .any], [some ⟨false, 54, 6, true, l.map enE⟩]⟩
def szM0 : Modes := ⟨[1, 0, 0, 2, 0, 0, 0, 0, 0, 0, 0, 0, 0, 0, 0, 0, 0, 0, 0, 0, 0, 0, 0, 0, 0, 0, 0, 0, 0, 0, 0, 0, 0, 0, 0, 0, 0, 0, 0, 0], [], [], [], []⟩
def szM : Modes := ⟨[1, 0, 0, 1, 0, 0, 0, 0, 0, 0, 0, 0, 0, 0, 0, 0, 0, 0, 0, 0, 0, 0, 0, 0, 0, 0, 0, 0, 0, 0, 0, 0, 0, 0, 0, 0, 0, 0, 0, 0], [], [], [], []⟩
def szM' : Modes := ⟨[0, 0, 1, 0, 0, 0, 0, 0, 0, 0, 0, 0, 0, 0, 0, 0, 0, 0, 0, 0, 0, 0, 0, 0, 0, 0, 0, 0, 0, 0, 0, 0, 0, 0, 0, 0, 0, 0, 0, 0], [], [], [], []⟩
def szN0 : Modes := ⟨[1, 0, 0, 1, 2, 0, 0, 0, 0, 0, 0, 0, 0, 0, 0, 0, 0, 0, 0, 0, 0, 0, 0, 0, 0, 0, 0, 0, 0, 0, 0, 0, 0, 0, 0, 0, 0, 0, 0, 0], [], [], [], []⟩
def szN : Modes := ⟨[1, 0, 0, 1, 1, 0, 0, 0, 0, 0, 0, 0, 0, 0, 0, 0, 0, 0, 0, 0, 0, 0, 0, 0, 0, 0, 0, 0, 0, 0, 0, 0, 0, 0, 0, 0, 0, 0, 0, 0], [], [], [], []⟩
def szN' : Modes := ⟨[1, 0, 1, 1, 0, 0, 0, 0, 0, 0, 0, 0, 0, 0, 0, 0, 0, 0, 0, 0, 0, 0, 0, 0, 0, 0, 0, 0, 0, 0, 0, 0, 0, 0, 0, 0, 0, 0, 0, 0], [], [], [], []⟩
def szI (l : List En) (p : Nat) : Prop := p ≤ l.length ∧ ∀ i, i < p → ∀ k, k < i → (at' l i).len = (at' l k).len → meE (at' l i) (at' l k) = false
def szI2 (l : List En) (p k : Nat) : Prop := k ≤ p ∧ ∀ j, j < k → (at' l p).len = (at' l j).len → meE (at' l p) (at' l j) = false
def szH (l : List En) : List Hint := [.linv _ 0 (szS l) (szI l) (fun p => l.length + 1 - p) szM0 szM szM' (fun _ => []) fun p =>
  [.fork [.linv _ 0 (szS2 l p) (szI2 l p) (fun k => l.length + 1 - k) szN0 szN szN' (fun _ => [.nw]) fun k =>
    [.fork [.dy, .cell (.int .i64 (at' l p).len), .dy, .cell (.int .i64 (at' l k).len), .fork [.dy, .cell (wdE (at' l p)), .dy, .cell (wdE (at' l k)), .fork [] [.nw]] [.nw]] []]] []]]

def rsimple10F : List Arg → (Res → Prop) → Prop
  | [.row r_l], R => r_l = (deE r_l).map enE ∧ (deE r_l).length ≤ 1000000 ∧ R (.v (.bool (siE (deE r_l))))
  | _, _ => False

noncomputable def rsimple10Cs : List (FuncId × Sx.Spec) := [(45, genSpec [none, none] wmeetF)]

theorem rsimple10_run (l : List En) (r : AV) : run rsimple10Cs Try.prog 16 [.vsl 0 0 (l.map enE).length] [some ⟨false, (pRefE.getD (0, 0)).1, (pRefE.getD (0, 0)).2, true, (l.map enE)⟩] (szH l) (yields (.v r)) =
    ((St.mk [AV.vsl 0 0 (List.length (List.map enE l)), .any, .any, AV.int IntKind.i64 0, .any, .any, .any, .any, .any, .any, .any, .any, .any, .any, .any, .any, .any, .any, .any, .any, .any, .any, .any, .any, .any, .any, .any, .any, .any, .any, .any, .any, .any, .any, .any, .any, .any, .any, .any, .any] [some (Blk.mk false (54 : TypeId) 6 true (List.map enE l))] = szS l 0 ∧ szI l 0) ∧ ∀ (p : Nat), szI l p → (Decidable.decide ((↑p : Int) < (↑(List.length (List.map enE l)) : Int)) = true → (St.mk [AV.vsl 0 0 (List.length (List.map enE l)), .any, .any, AV.int IntKind.i64 (↑p : Int), AV.int IntKind.i64 0, .any, .any, .any, .any, .any, .any, .any, .any, .any, .any, .any, .any, .any, .any, .any, .any, .any, .any, .any, .any, .any, .any, .any, .any, .any, .any, .any, .any, .any, .any, .any, .any, .any, .any, .any] [some (Blk.mk false (54 : TypeId) 6 true (List.map enE l))] = szS2 l p 0 ∧ szI2 l p 0) ∧ ∀ (p_1 : Nat), szI2 l p p_1 → (Decidable.decide ((↑p_1 : Int) < (↑p : Int)) = true → ((0 : Int) ≤ (↑p : Int) ∧ (↑p : Int) < (↑(List.length (List.map enE l)) : Int)) ∧ Blk.read Proofs.Try.prog (Blk.mk false (54 : TypeId) 6 true (List.map enE l)) 3 ((0 : Nat) + Int.toNat (↑p : Int)) ((0 : Nat) + (4 : Nat)) = some (AV.int IntKind.i64 (at' l p).5) ∧ ((0 : Int) ≤ (↑p_1 : Int) ∧ (↑p_1 : Int) < (↑(List.length (List.map enE l)) : Int)) ∧ Blk.read Proofs.Try.prog (Blk.mk false (54 : TypeId) 6 true (List.map enE l)) 3 ((0 : Nat) + Int.toNat (↑p_1 : Int)) ((0 : Nat) + (4 : Nat)) = some (AV.int IntKind.i64 (at' l p_1).5) ∧ (((at' l p).5 == (at' l p_1).5) = true → ((0 : Int) ≤ (↑p : Int) ∧ (↑p : Int) < (↑(List.length (List.map enE l)) : Int)) ∧ Blk.read Proofs.Try.prog (Blk.mk false (54 : TypeId) 6 true (List.map enE l)) 52 ((0 : Nat) + Int.toNat (↑p : Int)) ((0 : Nat) + (0 : Nat)) = some (AV.agg [AV.w64 (at' l p).1, AV.w64 (at' l p).2, AV.w64 (at' l p).3, AV.w64 (at' l p).4]) ∧ ((0 : Int) ≤ (↑p_1 : Int) ∧ (↑p_1 : Int) < (↑(List.length (List.map enE l)) : Int)) ∧ Blk.read Proofs.Try.prog (Blk.mk false (54 : TypeId) 6 true (List.map enE l)) 52 ((0 : Nat) + Int.toNat (↑p_1 : Int)) ((0 : Nat) + (0 : Nat)) = some (AV.agg [AV.w64 (at' l p_1).1, AV.w64 (at' l p_1).2, AV.w64 (at' l p_1).3, AV.w64 (at' l p_1).4]) ∧ (wtB (at' l p).1 (at' l p).2 (at' l p).3 (at' l p).4 (at' l p_1).1 (at' l p_1).2 (at' l p_1).3 (at' l p_1).4 = true → AV.bool false = r) ∧ (wtB (at' l p).1 (at' l p).2 (at' l p).3 (at' l p).4 (at' l p_1).1 (at' l p_1).2 (at' l p_1).3 (at' l p_1).4 = false → inRange IntKind.i64 ((↑p_1 : Int) + (1 : Int)) ∧ ∃ (p' : Nat), St.mk [AV.vsl 0 0 (List.length (List.map enE l)), .any, .any, AV.int IntKind.i64 (↑p : Int), AV.int IntKind.i64 ((↑p_1 : Int) + (1 : Int)), .any, .any, .any, .any, .any, .any, .any, .any, .any, .any, .any, .any, .any, .any, .any, .any, .any, .any, .any, .any, .any, .any, .any, .any, .any, .any, .any, .any, .any, .any, .any, .any, .any, .any, .any] [some (Blk.mk false (54 : TypeId) 6 true (List.map enE l))] = szS2 l p p' ∧ szI2 l p p' ∧ List.length l + (1 : Nat) - p' < List.length l + (1 : Nat) - p_1)) ∧ (((at' l p).5 == (at' l p_1).5) = false → inRange IntKind.i64 ((↑p_1 : Int) + (1 : Int)) ∧ ∃ (p' : Nat), St.mk [AV.vsl 0 0 (List.length (List.map enE l)), .any, .any, AV.int IntKind.i64 (↑p : Int), AV.int IntKind.i64 ((↑p_1 : Int) + (1 : Int)), .any, .any, .any, .any, .any, .any, .any, .any, .any, .any, .any, .any, .any, .any, .any, .any, .any, .any, .any, .any, .any, .any, .any, .any, .any, .any, .any, .any, .any, .any, .any, .any, .any, .any, .any] [some (Blk.mk false (54 : TypeId) 6 true (List.map enE l))] = szS2 l p p' ∧ szI2 l p p' ∧ List.length l + (1 : Nat) - p' < List.length l + (1 : Nat) - p_1)) ∧ (Decidable.decide ((↑p_1 : Int) < (↑p : Int)) = false → inRange IntKind.i64 ((↑p : Int) + (1 : Int)) ∧ ∃ (p' : Nat), St.mk [AV.vsl 0 0 (List.length (List.map enE l)), .any, .any, AV.int IntKind.i64 ((↑p : Int) + (1 : Int)), .any, .any, .any, .any, .any, .any, .any, .any, .any, .any, .any, .any, .any, .any, .any, .any, .any, .any, .any, .any, .any, .any, .any, .any, .any, .any, .any, .any, .any, .any, .any, .any, .any, .any, .any, .any] [some (Blk.mk false (54 : TypeId) 6 true (List.map enE l))] = szS l p' ∧ szI l p' ∧ List.length l + (1 : Nat) - p' < List.length l + (1 : Nat) - p)) ∧ (Decidable.decide ((↑p : Int) < (↑(List.length (List.map enE l)) : Int)) = false → AV.bool true = r)) := by kernel_rfl

theorem rsimple10Cs_ok : ∀ e ∈ rsimple10Cs, SpecOK Try.prog e.1 e.2 := by
  intro e he
  simp only [rsimple10Cs, List.mem_cons, List.not_mem_nil, or_false] at he
  rcases he with rfl
  · exact rwmeet_ok

theorem rsimple10_ok : SpecOK Try.prog 16 (genSpec [pRefE] rsimple10F) := by
  refine genSpec_ok (run_ok (l := rsimple10Cs) rsimple10Cs_ok mixed noNG) fun l R hF => ?_
  unfold rsimple10F at hF
  split at hF
  · rename_i r_l
    obtain ⟨hr_l, hl, hF⟩ := hF
    generalize deE r_l = l at hr_l hl hF
    subst hr_l
    refine ⟨_, hF, rfl, (szH l), ?_⟩
    show run rsimple10Cs Try.prog _ [.vsl 0 0 (l.map enE).length] [some ⟨false, (pRefE.getD (0, 0)).1, (pRefE.getD (0, 0)).2, true, (l.map enE)⟩] _ _
    rw [rsimple10_run]
    refine ⟨⟨rfl, Nat.zero_le _, fun i hi => by omega⟩, ?_⟩
    rintro p ⟨h1, h2⟩
    refine ⟨fun hlt => ⟨⟨rfl, Nat.zero_le _, fun j hj => by omega⟩, ?_⟩, fun hge => ?_⟩
    · have hp : p < l.length := by simp only [decide_eq_true_eq, List.length_map] at hlt; omega
      have B : 0 ≤ (p : Int) ∧ (p : Int) < ((l.map enE).length : Int) := by rw [List.length_map]; omega
      rintro k ⟨k1, k2⟩
      refine ⟨fun hlt => ?_, fun hge => ?_⟩
      · have hk : k < p := by simp only [decide_eq_true_eq] at hlt; omega
        have Bk : 0 ≤ (k : Int) ∧ (k : Int) < ((l.map enE).length : Int) := by rw [List.length_map]; omega
        have nx : ((at' l p).len = (at' l k).len → meE (at' l p) (at' l k) = false) → ∃ p', (⟨[.vsl 0 0 (l.map enE).length, .any, .any, .int .i64 p, .int .i64 ((k : Int) + 1), .any, .any, .any, .any, .any, .any, .any, .any, .any, .any, .any, .any, .any, .any, .any, .any, .any, .any, .any, .any, .any, .any, .any, .any, .any, .any, .any, .any, .any, .any, .any, .any, .any, .any, .any], [some ⟨false, 54, 6, true, l.map enE⟩]⟩ : St) = szS2 l p p' ∧ szI2 l p p' ∧ l.length + 1 - p' < l.length + 1 - k := fun h => by
          refine ⟨k + 1, rfl, ⟨hk, fun j hj => ?_⟩, by omega⟩
          rcases Nat.lt_or_eq_of_le (Nat.le_of_lt_succ hj) with h' | rfl
          · exact k2 j h'
          · exact h
        have i1 : inRange .i64 ((k : Int) + 1) := inR (by omega) (by omega)
        refine ⟨B, read_rows B.1 B.2 (ref_len _), Bk, read_rows Bk.1 Bk.2 (ref_len _), fun he => ⟨B, read_rows B.1 B.2 (ref_word _), Bk, read_rows Bk.1 Bk.2 (ref_word _), fun hm => ?_, fun hm => ⟨i1, nx fun _ => hm⟩⟩, fun hne => ⟨i1, nx fun e => ?_⟩⟩
        · have he : (at' l p).len = (at' l k).len := by simpa using he
          have : siE l = false := by
            unfold siE
            rw [decide_eq_false_iff_not]
            intro hh
            have := hh p hp k hk he
            rw [show meE (at' l p) (at' l k) = true from hm] at this; cases this
          rw [this]
        · have hne : (at' l p).len ≠ (at' l k).len := by simpa using hne
          exact absurd e hne
      · have hk : k = p := by simp only [decide_eq_false_iff_not] at hge; omega
        subst hk
        refine ⟨inR (by omega) (by omega), k + 1, rfl, ⟨hp, fun i hi => ?_⟩, by omega⟩
        rcases Nat.lt_or_eq_of_le (Nat.le_of_lt_succ hi) with h' | rfl
        · exact h2 i h'
        · exact k2
    · have hp : p = l.length := by simp only [decide_eq_false_iff_not, List.length_map] at hge; omega
      subst hp
      have : siE l = true := by unfold siE; exact decide_eq_true h2
      rw [this]
  · exact hF.elim


end Go.Proofs.Ytnjbgbdcbejciaa.L1
end

section
/-
  Layer 10: the document's Of and Build; the law's same.
-/
namespace Go.Proofs.Ytnjbgbdcbejciaa.L1
open Go.Sx Go.Sx.M

/-- A route's entry. -/
def rtOE (r : Ro) : En := ⟨r.p.a &&& mkW r.p.len, r.p.b &&& mkW (r.p.len - 64), mkW r.p.len, mkW (r.p.len - 64), clamp r.p.len, r.act⟩

/-- A table's entries. -/
def bdE (l : List Ro) (m : Int) : List En :=
  if m = 0 then srE (l.map rtOE) else if m = 1 then srE ((kpR l).map rtOE) else if m = 2 then mrE ((kpR l).map rtOE) else []

theorem bd_not {l : List Ro} {m : Int} (h : m < 0 ∨ m > 2) : bdE l m = [] := by
  unfold bdE
  rw [if_neg (by omega), if_neg (by omega), if_neg (by omega)]

end Go.Proofs.Ytnjbgbdcbejciaa.L1
end

section
/-
  Layer 10: a table's entries: plain mathematics.
-/
namespace Go.Proofs.Ytnjbgbdcbejciaa.L1
open Go.Sx Go.Sx.M

end Go.Proofs.Ytnjbgbdcbejciaa.L1
end

section
/-
  Layer 10: what the contracts of the program's calls say; what the document fixes of two halves.
-/
namespace Go.Proofs.Ytnjbgbdcbejciaa.L1
open Go.Sx Go.Sx.M

def gmerge10F : List Arg → (Res → Prop) → Prop
  | [.row r_l], R => r_l = (deE r_l).map enE ∧ (deE r_l).length ≤ 1000000 ∧ R (.vrow 42 6 ((mrE (deE r_l)).map enE))
  | _, _ => False

def gsimple10F : List Arg → (Res → Prop) → Prop
  | [.row r_l], R => r_l = (deE r_l).map enE ∧ (deE r_l).length ≤ 1000000 ∧ R (.v (.bool (siE (deE r_l))))
  | _, _ => False

def gbuild10F : List Arg → (Res → Prop) → Prop
  | [.row r_l, .v (.int .i64 m)], R => r_l = (deR r_l).map roE ∧ ((deR r_l).length ≤ 1000000 ∧ tbR 128 (deR r_l) = true) ∧ R (.vrow 42 6 ((bdE (deR r_l) m).map enE))
  | _, _ => False

def gmode10F : List Arg → (Res → Prop) → Prop
  | [.v (.int .i64 m)], R => R (.v (.bool (decide (m ≥ 0) && decide (m ≤ 2))))
  | _, _ => False

noncomputable def awake10Cs : List (FuncId × Sx.Spec) := [(37, genSpec [none, none] makeF), (15, genSpec [pRo, none] gbuild10F), (38, genSpec [none] wfreeF), (39, genSpec [pEn] gsimple10F), (40, genSpec [none] gmode10F)]

def aw10H : List Hint := [.br true, .cell (.int .i64 9), .br true, .cell (.agg [.w64 720575940379279360#64, .w64 0#64, .w64 18374686479671623680#64, .w64 0#64]), .br true, .br true, .br true]

theorem awake10_run (_u : Unit) : run awake10Cs Try.prog 12 [] [] aw10H (comesTo (.bool true)) =
    ([AV.agg [AV.w64 (BitVec.ofInt 64 720575940379279360 &&& mkW 9), AV.w64 (BitVec.ofInt 64 0 &&& mkW ((9 : Int) - (64 : Int))), AV.int IntKind.i64 (clamp 9), AV.int IntKind.i64 1], AV.agg [AV.w64 (BitVec.ofInt 64 756604737398243328 &&& mkW 9), AV.w64 (BitVec.ofInt 64 0 &&& mkW ((9 : Int) - (64 : Int))), AV.int IntKind.i64 (clamp 9), AV.int IntKind.i64 1]] = [AV.agg [AV.w64 (BitVec.ofInt 64 720575940379279360 &&& mkW 9), AV.w64 (BitVec.ofInt 64 0 &&& mkW ((9 : Int) - (64 : Int))), AV.int IntKind.i64 (clamp 9), AV.int IntKind.i64 1], AV.agg [AV.w64 (BitVec.ofInt 64 756604737398243328 &&& mkW 9), AV.w64 (BitVec.ofInt 64 0 &&& mkW ((9 : Int) - (64 : Int))), AV.int IntKind.i64 (clamp 9), AV.int IntKind.i64 1]] ∧ (List.length (deR [AV.agg [AV.w64 (BitVec.ofInt 64 720575940379279360 &&& mkW 9), AV.w64 (BitVec.ofInt 64 0 &&& mkW ((9 : Int) - (64 : Int))), AV.int IntKind.i64 (clamp 9), AV.int IntKind.i64 1], AV.agg [AV.w64 (BitVec.ofInt 64 756604737398243328 &&& mkW 9), AV.w64 (BitVec.ofInt 64 0 &&& mkW ((9 : Int) - (64 : Int))), AV.int IntKind.i64 (clamp 9), AV.int IntKind.i64 1]]) ≤ (1000000 : Nat) ∧ tbR 128 (deR [AV.agg [AV.w64 (BitVec.ofInt 64 720575940379279360 &&& mkW 9), AV.w64 (BitVec.ofInt 64 0 &&& mkW ((9 : Int) - (64 : Int))), AV.int IntKind.i64 (clamp 9), AV.int IntKind.i64 1], AV.agg [AV.w64 (BitVec.ofInt 64 756604737398243328 &&& mkW 9), AV.w64 (BitVec.ofInt 64 0 &&& mkW ((9 : Int) - (64 : Int))), AV.int IntKind.i64 (clamp 9), AV.int IntKind.i64 1]]) = true) ∧ ((↑(List.length [AV.agg [AV.w64 (BitVec.ofInt 64 720575940379279360 &&& mkW 9 &&& mkW (clamp 9) &&& (mkW (clamp 9) ^^^ (BitVec.ofInt 64 720575940379279360 &&& mkW 9 &&& mkW (clamp 9) ^^^ BitVec.ofInt 64 756604737398243328 &&& mkW 9 &&& mkW (clamp 9)) &&& mkW (clamp 9))), AV.w64 (BitVec.ofInt 64 0 &&& mkW ((9 : Int) - (64 : Int)) &&& mkW (clamp 9 - (64 : Int)) &&& (mkW (clamp 9 - (64 : Int)) ^^^ (BitVec.ofInt 64 0 &&& mkW ((9 : Int) - (64 : Int)) &&& mkW (clamp 9 - (64 : Int)) ^^^ BitVec.ofInt 64 0 &&& mkW ((9 : Int) - (64 : Int)) &&& mkW (clamp 9 - (64 : Int))) &&& mkW (clamp 9 - (64 : Int)))), AV.w64 (mkW (clamp 9) ^^^ (BitVec.ofInt 64 720575940379279360 &&& mkW 9 &&& mkW (clamp 9) ^^^ BitVec.ofInt 64 756604737398243328 &&& mkW 9 &&& mkW (clamp 9)) &&& mkW (clamp 9)), AV.w64 (mkW (clamp 9 - (64 : Int)) ^^^ (BitVec.ofInt 64 0 &&& mkW ((9 : Int) - (64 : Int)) &&& mkW (clamp 9 - (64 : Int)) ^^^ BitVec.ofInt 64 0 &&& mkW ((9 : Int) - (64 : Int)) &&& mkW (clamp 9 - (64 : Int))) &&& mkW (clamp 9 - (64 : Int))), AV.int IntKind.i64 (clamp (clamp 9)), AV.int IntKind.i64 1]]) : Int) == (1 : Int)) = true ∧ ((0 : Int) ≤ (0 : Int) ∧ (0 : Int) < (↑(List.length [AV.agg [AV.w64 (BitVec.ofInt 64 720575940379279360 &&& mkW 9 &&& mkW (clamp 9) &&& (mkW (clamp 9) ^^^ (BitVec.ofInt 64 720575940379279360 &&& mkW 9 &&& mkW (clamp 9) ^^^ BitVec.ofInt 64 756604737398243328 &&& mkW 9 &&& mkW (clamp 9)) &&& mkW (clamp 9))), AV.w64 (BitVec.ofInt 64 0 &&& mkW ((9 : Int) - (64 : Int)) &&& mkW (clamp 9 - (64 : Int)) &&& (mkW (clamp 9 - (64 : Int)) ^^^ (BitVec.ofInt 64 0 &&& mkW ((9 : Int) - (64 : Int)) &&& mkW (clamp 9 - (64 : Int)) ^^^ BitVec.ofInt 64 0 &&& mkW ((9 : Int) - (64 : Int)) &&& mkW (clamp 9 - (64 : Int))) &&& mkW (clamp 9 - (64 : Int)))), AV.w64 (mkW (clamp 9) ^^^ (BitVec.ofInt 64 720575940379279360 &&& mkW 9 &&& mkW (clamp 9) ^^^ BitVec.ofInt 64 756604737398243328 &&& mkW 9 &&& mkW (clamp 9)) &&& mkW (clamp 9)), AV.w64 (mkW (clamp 9 - (64 : Int)) ^^^ (BitVec.ofInt 64 0 &&& mkW ((9 : Int) - (64 : Int)) &&& mkW (clamp 9 - (64 : Int)) ^^^ BitVec.ofInt 64 0 &&& mkW ((9 : Int) - (64 : Int)) &&& mkW (clamp 9 - (64 : Int))) &&& mkW (clamp 9 - (64 : Int))), AV.int IntKind.i64 (clamp (clamp 9)), AV.int IntKind.i64 1]]) : Int)) ∧ Blk.read Proofs.Try.prog (Blk.mk true (42 : TypeId) 6 true [AV.agg [AV.w64 (BitVec.ofInt 64 720575940379279360 &&& mkW 9 &&& mkW (clamp 9) &&& (mkW (clamp 9) ^^^ (BitVec.ofInt 64 720575940379279360 &&& mkW 9 &&& mkW (clamp 9) ^^^ BitVec.ofInt 64 756604737398243328 &&& mkW 9 &&& mkW (clamp 9)) &&& mkW (clamp 9))), AV.w64 (BitVec.ofInt 64 0 &&& mkW ((9 : Int) - (64 : Int)) &&& mkW (clamp 9 - (64 : Int)) &&& (mkW (clamp 9 - (64 : Int)) ^^^ (BitVec.ofInt 64 0 &&& mkW ((9 : Int) - (64 : Int)) &&& mkW (clamp 9 - (64 : Int)) ^^^ BitVec.ofInt 64 0 &&& mkW ((9 : Int) - (64 : Int)) &&& mkW (clamp 9 - (64 : Int))) &&& mkW (clamp 9 - (64 : Int)))), AV.w64 (mkW (clamp 9) ^^^ (BitVec.ofInt 64 720575940379279360 &&& mkW 9 &&& mkW (clamp 9) ^^^ BitVec.ofInt 64 756604737398243328 &&& mkW 9 &&& mkW (clamp 9)) &&& mkW (clamp 9)), AV.w64 (mkW (clamp 9 - (64 : Int)) ^^^ (BitVec.ofInt 64 0 &&& mkW ((9 : Int) - (64 : Int)) &&& mkW (clamp 9 - (64 : Int)) ^^^ BitVec.ofInt 64 0 &&& mkW ((9 : Int) - (64 : Int)) &&& mkW (clamp 9 - (64 : Int))) &&& mkW (clamp 9 - (64 : Int))), AV.int IntKind.i64 (clamp (clamp 9)), AV.int IntKind.i64 1]]) 3 ((0 : Nat) + Int.toNat 0) ((0 : Nat) + (4 : Nat)) = some (AV.int IntKind.i64 9) ∧ ((9 : Int) == (9 : Int)) = true ∧ ((0 : Int) ≤ (0 : Int) ∧ (0 : Int) < (↑(List.length [AV.agg [AV.w64 (BitVec.ofInt 64 720575940379279360 &&& mkW 9 &&& mkW (clamp 9) &&& (mkW (clamp 9) ^^^ (BitVec.ofInt 64 720575940379279360 &&& mkW 9 &&& mkW (clamp 9) ^^^ BitVec.ofInt 64 756604737398243328 &&& mkW 9 &&& mkW (clamp 9)) &&& mkW (clamp 9))), AV.w64 (BitVec.ofInt 64 0 &&& mkW ((9 : Int) - (64 : Int)) &&& mkW (clamp 9 - (64 : Int)) &&& (mkW (clamp 9 - (64 : Int)) ^^^ (BitVec.ofInt 64 0 &&& mkW ((9 : Int) - (64 : Int)) &&& mkW (clamp 9 - (64 : Int)) ^^^ BitVec.ofInt 64 0 &&& mkW ((9 : Int) - (64 : Int)) &&& mkW (clamp 9 - (64 : Int))) &&& mkW (clamp 9 - (64 : Int)))), AV.w64 (mkW (clamp 9) ^^^ (BitVec.ofInt 64 720575940379279360 &&& mkW 9 &&& mkW (clamp 9) ^^^ BitVec.ofInt 64 756604737398243328 &&& mkW 9 &&& mkW (clamp 9)) &&& mkW (clamp 9)), AV.w64 (mkW (clamp 9 - (64 : Int)) ^^^ (BitVec.ofInt 64 0 &&& mkW ((9 : Int) - (64 : Int)) &&& mkW (clamp 9 - (64 : Int)) ^^^ BitVec.ofInt 64 0 &&& mkW ((9 : Int) - (64 : Int)) &&& mkW (clamp 9 - (64 : Int))) &&& mkW (clamp 9 - (64 : Int))), AV.int IntKind.i64 (clamp (clamp 9)), AV.int IntKind.i64 1]]) : Int)) ∧ Blk.read Proofs.Try.prog (Blk.mk true (42 : TypeId) 6 true [AV.agg [AV.w64 (BitVec.ofInt 64 720575940379279360 &&& mkW 9 &&& mkW (clamp 9) &&& (mkW (clamp 9) ^^^ (BitVec.ofInt 64 720575940379279360 &&& mkW 9 &&& mkW (clamp 9) ^^^ BitVec.ofInt 64 756604737398243328 &&& mkW 9 &&& mkW (clamp 9)) &&& mkW (clamp 9))), AV.w64 (BitVec.ofInt 64 0 &&& mkW ((9 : Int) - (64 : Int)) &&& mkW (clamp 9 - (64 : Int)) &&& (mkW (clamp 9 - (64 : Int)) ^^^ (BitVec.ofInt 64 0 &&& mkW ((9 : Int) - (64 : Int)) &&& mkW (clamp 9 - (64 : Int)) ^^^ BitVec.ofInt 64 0 &&& mkW ((9 : Int) - (64 : Int)) &&& mkW (clamp 9 - (64 : Int))) &&& mkW (clamp 9 - (64 : Int)))), AV.w64 (mkW (clamp 9) ^^^ (BitVec.ofInt 64 720575940379279360 &&& mkW 9 &&& mkW (clamp 9) ^^^ BitVec.ofInt 64 756604737398243328 &&& mkW 9 &&& mkW (clamp 9)) &&& mkW (clamp 9)), AV.w64 (mkW (clamp 9 - (64 : Int)) ^^^ (BitVec.ofInt 64 0 &&& mkW ((9 : Int) - (64 : Int)) &&& mkW (clamp 9 - (64 : Int)) ^^^ BitVec.ofInt 64 0 &&& mkW ((9 : Int) - (64 : Int)) &&& mkW (clamp 9 - (64 : Int))) &&& mkW (clamp 9 - (64 : Int))), AV.int IntKind.i64 (clamp (clamp 9)), AV.int IntKind.i64 1]]) 40 ((0 : Nat) + Int.toNat 0) ((0 : Nat) + (0 : Nat)) = some (AV.agg [AV.w64 (BitVec.ofNat 64 720575940379279360), AV.w64 (BitVec.ofNat 64 0), AV.w64 (BitVec.ofNat 64 18374686479671623680), AV.w64 (BitVec.ofNat 64 0)]) ∧ ((↑(cnt 64 (BitVec.toNat (~~~BitVec.ofNat 64 18374686479671623680))) : Int) + (↑(cnt 64 (BitVec.toNat (~~~BitVec.ofNat 64 0))) : Int) == (120 : Int)) = true ∧ [AV.agg [AV.w64 (BitVec.ofInt 64 720575940379279360 &&& mkW 9), AV.w64 (BitVec.ofInt 64 0 &&& mkW ((9 : Int) - (64 : Int))), AV.int IntKind.i64 (clamp 9), AV.int IntKind.i64 1], AV.agg [AV.w64 (BitVec.ofInt 64 756604737398243328 &&& mkW 9), AV.w64 (BitVec.ofInt 64 0 &&& mkW ((9 : Int) - (64 : Int))), AV.int IntKind.i64 (clamp 9), AV.int IntKind.i64 1]] = [AV.agg [AV.w64 (BitVec.ofInt 64 720575940379279360 &&& mkW 9), AV.w64 (BitVec.ofInt 64 0 &&& mkW ((9 : Int) - (64 : Int))), AV.int IntKind.i64 (clamp 9), AV.int IntKind.i64 1], AV.agg [AV.w64 (BitVec.ofInt 64 756604737398243328 &&& mkW 9), AV.w64 (BitVec.ofInt 64 0 &&& mkW ((9 : Int) - (64 : Int))), AV.int IntKind.i64 (clamp 9), AV.int IntKind.i64 1]] ∧ (List.length (deR [AV.agg [AV.w64 (BitVec.ofInt 64 720575940379279360 &&& mkW 9), AV.w64 (BitVec.ofInt 64 0 &&& mkW ((9 : Int) - (64 : Int))), AV.int IntKind.i64 (clamp 9), AV.int IntKind.i64 1], AV.agg [AV.w64 (BitVec.ofInt 64 756604737398243328 &&& mkW 9), AV.w64 (BitVec.ofInt 64 0 &&& mkW ((9 : Int) - (64 : Int))), AV.int IntKind.i64 (clamp 9), AV.int IntKind.i64 1]]) ≤ (1000000 : Nat) ∧ tbR 128 (deR [AV.agg [AV.w64 (BitVec.ofInt 64 720575940379279360 &&& mkW 9), AV.w64 (BitVec.ofInt 64 0 &&& mkW ((9 : Int) - (64 : Int))), AV.int IntKind.i64 (clamp 9), AV.int IntKind.i64 1], AV.agg [AV.w64 (BitVec.ofInt 64 756604737398243328 &&& mkW 9), AV.w64 (BitVec.ofInt 64 0 &&& mkW ((9 : Int) - (64 : Int))), AV.int IntKind.i64 (clamp 9), AV.int IntKind.i64 1]]) = true) ∧ ((↑(List.length [AV.agg [AV.w64 (BitVec.ofInt 64 720575940379279360 &&& mkW 9 &&& mkW (clamp 9)), AV.w64 (BitVec.ofInt 64 0 &&& mkW ((9 : Int) - (64 : Int)) &&& mkW (clamp 9 - (64 : Int))), AV.w64 (mkW (clamp 9)), AV.w64 (mkW (clamp 9 - (64 : Int))), AV.int IntKind.i64 (clamp (clamp 9)), AV.int IntKind.i64 1], AV.agg [AV.w64 (BitVec.ofInt 64 756604737398243328 &&& mkW 9 &&& mkW (clamp 9)), AV.w64 (BitVec.ofInt 64 0 &&& mkW ((9 : Int) - (64 : Int)) &&& mkW (clamp 9 - (64 : Int))), AV.w64 (mkW (clamp 9)), AV.w64 (mkW (clamp 9 - (64 : Int))), AV.int IntKind.i64 (clamp (clamp 9)), AV.int IntKind.i64 1]]) : Int) == (2 : Int)) = true ∧ (0 : Nat) + List.length [AV.agg [AV.w64 (BitVec.ofInt 64 720575940379279360 &&& mkW 9 &&& mkW (clamp 9) &&& (mkW (clamp 9) ^^^ (BitVec.ofInt 64 720575940379279360 &&& mkW 9 &&& mkW (clamp 9) ^^^ BitVec.ofInt 64 756604737398243328 &&& mkW 9 &&& mkW (clamp 9)) &&& mkW (clamp 9))), AV.w64 (BitVec.ofInt 64 0 &&& mkW ((9 : Int) - (64 : Int)) &&& mkW (clamp 9 - (64 : Int)) &&& (mkW (clamp 9 - (64 : Int)) ^^^ (BitVec.ofInt 64 0 &&& mkW ((9 : Int) - (64 : Int)) &&& mkW (clamp 9 - (64 : Int)) ^^^ BitVec.ofInt 64 0 &&& mkW ((9 : Int) - (64 : Int)) &&& mkW (clamp 9 - (64 : Int))) &&& mkW (clamp 9 - (64 : Int)))), AV.w64 (mkW (clamp 9) ^^^ (BitVec.ofInt 64 720575940379279360 &&& mkW 9 &&& mkW (clamp 9) ^^^ BitVec.ofInt 64 756604737398243328 &&& mkW 9 &&& mkW (clamp 9)) &&& mkW (clamp 9)), AV.w64 (mkW (clamp 9 - (64 : Int)) ^^^ (BitVec.ofInt 64 0 &&& mkW ((9 : Int) - (64 : Int)) &&& mkW (clamp 9 - (64 : Int)) ^^^ BitVec.ofInt 64 0 &&& mkW ((9 : Int) - (64 : Int)) &&& mkW (clamp 9 - (64 : Int))) &&& mkW (clamp 9 - (64 : Int))), AV.int IntKind.i64 (clamp (clamp 9)), AV.int IntKind.i64 1]] ≤ List.length [AV.agg [AV.w64 (BitVec.ofInt 64 720575940379279360 &&& mkW 9 &&& mkW (clamp 9) &&& (mkW (clamp 9) ^^^ (BitVec.ofInt 64 720575940379279360 &&& mkW 9 &&& mkW (clamp 9) ^^^ BitVec.ofInt 64 756604737398243328 &&& mkW 9 &&& mkW (clamp 9)) &&& mkW (clamp 9))), AV.w64 (BitVec.ofInt 64 0 &&& mkW ((9 : Int) - (64 : Int)) &&& mkW (clamp 9 - (64 : Int)) &&& (mkW (clamp 9 - (64 : Int)) ^^^ (BitVec.ofInt 64 0 &&& mkW ((9 : Int) - (64 : Int)) &&& mkW (clamp 9 - (64 : Int)) ^^^ BitVec.ofInt 64 0 &&& mkW ((9 : Int) - (64 : Int)) &&& mkW (clamp 9 - (64 : Int))) &&& mkW (clamp 9 - (64 : Int)))), AV.w64 (mkW (clamp 9) ^^^ (BitVec.ofInt 64 720575940379279360 &&& mkW 9 &&& mkW (clamp 9) ^^^ BitVec.ofInt 64 756604737398243328 &&& mkW 9 &&& mkW (clamp 9)) &&& mkW (clamp 9)), AV.w64 (mkW (clamp 9 - (64 : Int)) ^^^ (BitVec.ofInt 64 0 &&& mkW ((9 : Int) - (64 : Int)) &&& mkW (clamp 9 - (64 : Int)) ^^^ BitVec.ofInt 64 0 &&& mkW ((9 : Int) - (64 : Int)) &&& mkW (clamp 9 - (64 : Int))) &&& mkW (clamp 9 - (64 : Int))), AV.int IntKind.i64 (clamp (clamp 9)), AV.int IntKind.i64 1]] ∧ [AV.agg [AV.w64 (BitVec.ofInt 64 720575940379279360 &&& mkW 9 &&& mkW (clamp 9) &&& (mkW (clamp 9) ^^^ (BitVec.ofInt 64 720575940379279360 &&& mkW 9 &&& mkW (clamp 9) ^^^ BitVec.ofInt 64 756604737398243328 &&& mkW 9 &&& mkW (clamp 9)) &&& mkW (clamp 9))), AV.w64 (BitVec.ofInt 64 0 &&& mkW ((9 : Int) - (64 : Int)) &&& mkW (clamp 9 - (64 : Int)) &&& (mkW (clamp 9 - (64 : Int)) ^^^ (BitVec.ofInt 64 0 &&& mkW ((9 : Int) - (64 : Int)) &&& mkW (clamp 9 - (64 : Int)) ^^^ BitVec.ofInt 64 0 &&& mkW ((9 : Int) - (64 : Int)) &&& mkW (clamp 9 - (64 : Int))) &&& mkW (clamp 9 - (64 : Int)))), AV.w64 (mkW (clamp 9) ^^^ (BitVec.ofInt 64 720575940379279360 &&& mkW 9 &&& mkW (clamp 9) ^^^ BitVec.ofInt 64 756604737398243328 &&& mkW 9 &&& mkW (clamp 9)) &&& mkW (clamp 9)), AV.w64 (mkW (clamp 9 - (64 : Int)) ^^^ (BitVec.ofInt 64 0 &&& mkW ((9 : Int) - (64 : Int)) &&& mkW (clamp 9 - (64 : Int)) ^^^ BitVec.ofInt 64 0 &&& mkW ((9 : Int) - (64 : Int)) &&& mkW (clamp 9 - (64 : Int))) &&& mkW (clamp 9 - (64 : Int))), AV.int IntKind.i64 (clamp (clamp 9)), AV.int IntKind.i64 1]] = [AV.agg [AV.w64 (BitVec.ofInt 64 720575940379279360 &&& mkW 9 &&& mkW (clamp 9) &&& (mkW (clamp 9) ^^^ (BitVec.ofInt 64 720575940379279360 &&& mkW 9 &&& mkW (clamp 9) ^^^ BitVec.ofInt 64 756604737398243328 &&& mkW 9 &&& mkW (clamp 9)) &&& mkW (clamp 9))), AV.w64 (BitVec.ofInt 64 0 &&& mkW ((9 : Int) - (64 : Int)) &&& mkW (clamp 9 - (64 : Int)) &&& (mkW (clamp 9 - (64 : Int)) ^^^ (BitVec.ofInt 64 0 &&& mkW ((9 : Int) - (64 : Int)) &&& mkW (clamp 9 - (64 : Int)) ^^^ BitVec.ofInt 64 0 &&& mkW ((9 : Int) - (64 : Int)) &&& mkW (clamp 9 - (64 : Int))) &&& mkW (clamp 9 - (64 : Int)))), AV.w64 (mkW (clamp 9) ^^^ (BitVec.ofInt 64 720575940379279360 &&& mkW 9 &&& mkW (clamp 9) ^^^ BitVec.ofInt 64 756604737398243328 &&& mkW 9 &&& mkW (clamp 9)) &&& mkW (clamp 9)), AV.w64 (mkW (clamp 9 - (64 : Int)) ^^^ (BitVec.ofInt 64 0 &&& mkW ((9 : Int) - (64 : Int)) &&& mkW (clamp 9 - (64 : Int)) ^^^ BitVec.ofInt 64 0 &&& mkW ((9 : Int) - (64 : Int)) &&& mkW (clamp 9 - (64 : Int))) &&& mkW (clamp 9 - (64 : Int))), AV.int IntKind.i64 (clamp (clamp 9)), AV.int IntKind.i64 1]] ∧ List.length (deE [AV.agg [AV.w64 (BitVec.ofInt 64 720575940379279360 &&& mkW 9 &&& mkW (clamp 9) &&& (mkW (clamp 9) ^^^ (BitVec.ofInt 64 720575940379279360 &&& mkW 9 &&& mkW (clamp 9) ^^^ BitVec.ofInt 64 756604737398243328 &&& mkW 9 &&& mkW (clamp 9)) &&& mkW (clamp 9))), AV.w64 (BitVec.ofInt 64 0 &&& mkW ((9 : Int) - (64 : Int)) &&& mkW (clamp 9 - (64 : Int)) &&& (mkW (clamp 9 - (64 : Int)) ^^^ (BitVec.ofInt 64 0 &&& mkW ((9 : Int) - (64 : Int)) &&& mkW (clamp 9 - (64 : Int)) ^^^ BitVec.ofInt 64 0 &&& mkW ((9 : Int) - (64 : Int)) &&& mkW (clamp 9 - (64 : Int))) &&& mkW (clamp 9 - (64 : Int)))), AV.w64 (mkW (clamp 9) ^^^ (BitVec.ofInt 64 720575940379279360 &&& mkW 9 &&& mkW (clamp 9) ^^^ BitVec.ofInt 64 756604737398243328 &&& mkW 9 &&& mkW (clamp 9)) &&& mkW (clamp 9)), AV.w64 (mkW (clamp 9 - (64 : Int)) ^^^ (BitVec.ofInt 64 0 &&& mkW ((9 : Int) - (64 : Int)) &&& mkW (clamp 9 - (64 : Int)) ^^^ BitVec.ofInt 64 0 &&& mkW ((9 : Int) - (64 : Int)) &&& mkW (clamp 9 - (64 : Int))) &&& mkW (clamp 9 - (64 : Int))), AV.int IntKind.i64 (clamp (clamp 9)), AV.int IntKind.i64 1]]) ≤ (1000000 : Nat) ∧ siE (deE [AV.agg [AV.w64 (BitVec.ofInt 64 720575940379279360 &&& mkW 9 &&& mkW (clamp 9) &&& (mkW (clamp 9) ^^^ (BitVec.ofInt 64 720575940379279360 &&& mkW 9 &&& mkW (clamp 9) ^^^ BitVec.ofInt 64 756604737398243328 &&& mkW 9 &&& mkW (clamp 9)) &&& mkW (clamp 9))), AV.w64 (BitVec.ofInt 64 0 &&& mkW ((9 : Int) - (64 : Int)) &&& mkW (clamp 9 - (64 : Int)) &&& (mkW (clamp 9 - (64 : Int)) ^^^ (BitVec.ofInt 64 0 &&& mkW ((9 : Int) - (64 : Int)) &&& mkW (clamp 9 - (64 : Int)) ^^^ BitVec.ofInt 64 0 &&& mkW ((9 : Int) - (64 : Int)) &&& mkW (clamp 9 - (64 : Int))) &&& mkW (clamp 9 - (64 : Int)))), AV.w64 (mkW (clamp 9) ^^^ (BitVec.ofInt 64 720575940379279360 &&& mkW 9 &&& mkW (clamp 9) ^^^ BitVec.ofInt 64 756604737398243328 &&& mkW 9 &&& mkW (clamp 9)) &&& mkW (clamp 9)), AV.w64 (mkW (clamp 9 - (64 : Int)) ^^^ (BitVec.ofInt 64 0 &&& mkW ((9 : Int) - (64 : Int)) &&& mkW (clamp 9 - (64 : Int)) ^^^ BitVec.ofInt 64 0 &&& mkW ((9 : Int) - (64 : Int)) &&& mkW (clamp 9 - (64 : Int))) &&& mkW (clamp 9 - (64 : Int))), AV.int IntKind.i64 (clamp (clamp 9)), AV.int IntKind.i64 1]]) = true ∧ AV.bool (Decidable.decide ((2 : Int) ≥ (0 : Int)) && Decidable.decide ((2 : Int) ≤ (2 : Int))) = AV.bool true) := by kernel_rfl

theorem awake10_law : ∃ hs, run awake10Cs Try.prog 12 [] [] hs (comesTo (.bool true)) := by
  refine ⟨aw10H, ?_⟩
  rw [awake10_run ()]
  repeat' (apply And.intro)
  all_goals first | kernel_rfl | exact of_decide_eq_true (by kernel_rfl)

theorem awake_ex {C : Sx.Call} (hC : COK Try.prog false C) {f : FuncId} (h : ∃ hs, C f [] [] hs (comesTo (.bool true))) : SpecOK Try.prog f awakeSpec := by
  obtain ⟨hs, r⟩ := h
  exact awake_ok hC r

theorem awake10_of (h : ∀ e ∈ awake10Cs, SpecOK Try.prog e.1 e.2) : SpecOK Try.prog 12 awakeSpec := by
  exact awake_ex (run_ok (l := awake10Cs) h mixed noNG) awake10_law

noncomputable def l10Cs : List (FuncId × Sx.Spec) :=
  (12, awakeSpec) ::
  (17, genSpec [pEn] of5F) ::
  (20, genSpec [pEn] gmerge10F) ::
  (39, genSpec [pEn] gsimple10F) ::
  (15, genSpec [pRo, none] gbuild10F) ::
  (40, genSpec [none] gmode10F) ::
  (16, genSpec [pRefE] rsimple10F) ::
  (19, genSpec [pEn, none] rtellF) ::
  (69, genSpec [pRefE, none] rtellF) ::
  (18, genSpec [pRefE] rorderedF) ::
  (11, genSpec [pRo] table9F) ::
  (14, genSpec [pRo] of6F) ::
  (13, genSpec [pRefR, none] rrtellF) ::
  (21, genSpec [none, none] wcoversF) ::
  []

end Go.Proofs.Ytnjbgbdcbejciaa.L1
end

