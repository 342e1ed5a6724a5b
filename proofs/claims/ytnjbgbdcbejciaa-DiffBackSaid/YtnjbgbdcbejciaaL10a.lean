/-
  Texts in one: L10A L10B L10M L10D.
-/
import Derived.Test.YtnjbgbdcbejciaaMa
import Derived.Test.YtnjbgbdcbejciaaL4I
import Derived.Test.YtnjbgbdcbejciaaL5a
import Derived.Test.YtnjbgbdcbejciaaL9a
import Derived.Test.YtnjbgbdcbejciaaL2S

section
/-
  Layer 10: the document's Simple, Merge, Of.
-/
namespace Go.Proofs.Ytnjbgbdcbejciaa.L1
open Go.Sx Go.Sx.M

def szS (l : List En) (p : Nat) : St := ⟨[.vsl 0 0 (l.map enE).length, .any, .any, .int .i64 p, .any, .any, .any, .any, .any, .any, .any, .any, .any, .any, .any, .any, .any, .any, .any, .any, .any, .any, .any, .any, .any, .any, .any, .any, .any, .any, .any, .any, .any, .any, .any, .any, .any, .any, .any, .any], [some ⟨false, 54, 6, true, l.map enE⟩]⟩
def szS2 (l : List En) (p k : Nat) : St := ⟨[.vsl 0 0 (l.map enE).length, .any, .any, .int .i64 p, .int .i64 k, .any, .any, .any, .any, .any, .any, .any, .any, .any, .any, .any, .any, .any, .any, .any, .any, .any, .any, .any, .any, .any, .any, .any, .any, .any, .any, .any, .any, .any, .any, .any, .any, .any, .any, .any], [some ⟨false, 54, 6, true, l.map enE⟩]⟩
def szM0 : Modes := ⟨[1, 0, 0, 2, 0, 0, 0, 0, 0, 0, 0, 0, 0, 0, 0, 0, 0, 0, 0, 0, 0, 0, 0, 0, 0, 0, 0, 0, 0, 0, 0, 0, 0, 0, 0, 0, 0, 0, 0, 0], [], [], [], []⟩
def szM : Modes := ⟨[1, 0, 0, 1, 0, 0, 0, 0, 0, 0, 0, 0, 0, 0, 0, 0, 0, 0, 0, 0, 0, 0, 0, 0, 0, 0, 0, 0, 0, 0, 0, 0, 0, 0, 0, 0, 0, 0, 0, 0], [], [], [], []⟩
def szM' : Modes := ⟨[0, 0, 1, 0, 0, 0, 0, 0, 0, 0, 0, 0, 0, 0, 0, 0, 0, 0, 0, 0, 0, 0, 0, 0, 0, 0, 0, 0, 0, 0, 0, 0, 0, 0, 0, 0, 0, 0, 0, 0], [], [], [], []⟩
def szN0 : Modes := ⟨[1, 0, 0, 1, 2, 0, 0, 0, 0, 0, 0, 0, 0, 0, 0, 0, 0, 0, 0, 0, 0, 0, 0, 0, 0, 0, 0, 0, 0, 0, 0, 0, 0, 0, 0, 0, 0, 0, 0, 0], [], [], [], []⟩
def szN : Modes := ⟨[1, 0, 0, 1, 1, 0, 0, 0, 0, 0, 0, 0, 0, 0, 0, 0, 0, 0, 0, 0, 0, 0, 0, 0, 0, 0, 0, 0, 0, 0, 0, 0, 0, 0, 0, 0, 0, 0, 0, 0], [], [], [], []⟩
def szN' : Modes := ⟨[1, 0, 1, 1, 0, 0, 0, 0, 0, 0, 0, 0, 0, 0, 0, 0, 0, 0, 0, 0, 0, 0, 0, 0, 0, 0, 0, 0, 0, 0, 0, 0, 0, 0, 0, 0, 0, 0, 0, 0], [], [], [], []⟩
def szI (l : List En) (p : Nat) : Prop := p ≤ l.length ∧ ∀ i, i < p → ∀ k, k < i → (at' l i).len = (at' l k).len → meE (at' l i) (at' l k) = false
def szI2 (l : List En) (p k : Nat) : Prop := k ≤ p ∧ ∀ j, j < k → (at' l p).len = (at' l j).len → meE (at' l p) (at' l j) = false
def szH (l : List En) : List Hint := [.linv _ 0 (szS l) (szI l) (fun p => l.length + 1 - p) szM0 szM szM' (fun _ => []) fun p =>
  [.fork [.linv _ 0 (szS2 l p) (szI2 l p) (fun k => l.length + 1 - k) szN0 szN szN' (fun _ => [.nw]) fun k =>
    [.fork [.dy, .cell (.int .i64 (at' l p).len), .dy, .cell (.int .i64 (at' l k).len), .fork [.dy, .cell (wdE (at' l p)), .dy, .cell (wdE (at' l k)), .fork [] [.nw]] [.nw]] []]] []]]

def rsimple10F : List Arg → (Res → Prop) → Prop
  | [.row r_l], R => r_l = (deE r_l).map enE ∧ (deE r_l).length ≤ 1000000 ∧ R (.v (.bool (siE (deE r_l))))
  | _, _ => False

noncomputable def rsimple10Cs : List (FuncId × Sx.Spec) := [(45, genSpec [none, none] wmeetF)]

theorem rsimple10_run (l : List En) (r : AV) : run rsimple10Cs Try.prog 16 [.vsl 0 0 (l.map enE).length] [some ⟨false, (pRefE.getD (0, 0)).1, (pRefE.getD (0, 0)).2, true, (l.map enE)⟩] (szH l) (yields (.v r)) =
    ((St.mk [AV.vsl (0 : Nat) (0 : Nat) (List.length (List.map enE l)), AV.any, AV.any, AV.int IntKind.i64 (0 : Int), AV.any, AV.any, AV.any, AV.any, AV.any, AV.any, AV.any, AV.any, AV.any, AV.any, AV.any, AV.any, AV.any, AV.any, AV.any, AV.any, AV.any, AV.any, AV.any, AV.any, AV.any, AV.any, AV.any, AV.any, AV.any, AV.any, AV.any, AV.any, AV.any, AV.any, AV.any, AV.any, AV.any, AV.any, AV.any, AV.any] [some (Blk.mk false (54 : TypeId) (6 : Nat) true (List.map enE l))] = szS l (0 : Nat) ∧ szI l (0 : Nat)) ∧ ∀ (p : Nat), szI l p → (Decidable.decide ((↑p : Int) < (↑(List.length (List.map enE l)) : Int)) = true → (St.mk [AV.vsl (0 : Nat) (0 : Nat) (List.length (List.map enE l)), AV.any, AV.any, AV.int IntKind.i64 (↑p : Int), AV.int IntKind.i64 (0 : Int), AV.any, AV.any, AV.any, AV.any, AV.any, AV.any, AV.any, AV.any, AV.any, AV.any, AV.any, AV.any, AV.any, AV.any, AV.any, AV.any, AV.any, AV.any, AV.any, AV.any, AV.any, AV.any, AV.any, AV.any, AV.any, AV.any, AV.any, AV.any, AV.any, AV.any, AV.any, AV.any, AV.any, AV.any, AV.any] [some (Blk.mk false (54 : TypeId) (6 : Nat) true (List.map enE l))] = szS2 l p (0 : Nat) ∧ szI2 l p (0 : Nat)) ∧ ∀ (p_1 : Nat), szI2 l p p_1 → (Decidable.decide ((↑p_1 : Int) < (↑p : Int)) = true → ((0 : Int) ≤ (↑p : Int) ∧ (↑p : Int) < (↑(List.length (List.map enE l)) : Int)) ∧ Blk.read Proofs.Try.prog (Blk.mk false (54 : TypeId) (6 : Nat) true (List.map enE l)) (3 : Nat) ((0 : Nat) + Int.toNat (↑p : Int)) ((0 : Nat) + (4 : Nat)) = some (AV.int IntKind.i64 (at' l p).5) ∧ ((0 : Int) ≤ (↑p_1 : Int) ∧ (↑p_1 : Int) < (↑(List.length (List.map enE l)) : Int)) ∧ Blk.read Proofs.Try.prog (Blk.mk false (54 : TypeId) (6 : Nat) true (List.map enE l)) (3 : Nat) ((0 : Nat) + Int.toNat (↑p_1 : Int)) ((0 : Nat) + (4 : Nat)) = some (AV.int IntKind.i64 (at' l p_1).5) ∧ (((at' l p).5 == (at' l p_1).5) = true → ((0 : Int) ≤ (↑p : Int) ∧ (↑p : Int) < (↑(List.length (List.map enE l)) : Int)) ∧ Blk.read Proofs.Try.prog (Blk.mk false (54 : TypeId) (6 : Nat) true (List.map enE l)) (52 : Nat) ((0 : Nat) + Int.toNat (↑p : Int)) ((0 : Nat) + (0 : Nat)) = some (AV.agg [AV.w64 (at' l p).1, AV.w64 (at' l p).2, AV.w64 (at' l p).3, AV.w64 (at' l p).4]) ∧ ((0 : Int) ≤ (↑p_1 : Int) ∧ (↑p_1 : Int) < (↑(List.length (List.map enE l)) : Int)) ∧ Blk.read Proofs.Try.prog (Blk.mk false (54 : TypeId) (6 : Nat) true (List.map enE l)) (52 : Nat) ((0 : Nat) + Int.toNat (↑p_1 : Int)) ((0 : Nat) + (0 : Nat)) = some (AV.agg [AV.w64 (at' l p_1).1, AV.w64 (at' l p_1).2, AV.w64 (at' l p_1).3, AV.w64 (at' l p_1).4]) ∧ (wtB (at' l p).1 (at' l p).2 (at' l p).3 (at' l p).4 (at' l p_1).1 (at' l p_1).2 (at' l p_1).3 (at' l p_1).4 = true → AV.bool false = r) ∧ (wtB (at' l p).1 (at' l p).2 (at' l p).3 (at' l p).4 (at' l p_1).1 (at' l p_1).2 (at' l p_1).3 (at' l p_1).4 = false → inRange IntKind.i64 ((↑p_1 : Int) + (1 : Int)) ∧ ∃ (p' : Nat), St.mk [AV.vsl (0 : Nat) (0 : Nat) (List.length (List.map enE l)), AV.any, AV.any, AV.int IntKind.i64 (↑p : Int), AV.int IntKind.i64 ((↑p_1 : Int) + (1 : Int)), AV.any, AV.any, AV.any, AV.any, AV.any, AV.any, AV.any, AV.any, AV.any, AV.any, AV.any, AV.any, AV.any, AV.any, AV.any, AV.any, AV.any, AV.any, AV.any, AV.any, AV.any, AV.any, AV.any, AV.any, AV.any, AV.any, AV.any, AV.any, AV.any, AV.any, AV.any, AV.any, AV.any, AV.any, AV.any] [some (Blk.mk false (54 : TypeId) (6 : Nat) true (List.map enE l))] = szS2 l p p' ∧ szI2 l p p' ∧ List.length l + (1 : Nat) - p' < List.length l + (1 : Nat) - p_1)) ∧ (((at' l p).5 == (at' l p_1).5) = false → inRange IntKind.i64 ((↑p_1 : Int) + (1 : Int)) ∧ ∃ (p' : Nat), St.mk [AV.vsl (0 : Nat) (0 : Nat) (List.length (List.map enE l)), AV.any, AV.any, AV.int IntKind.i64 (↑p : Int), AV.int IntKind.i64 ((↑p_1 : Int) + (1 : Int)), AV.any, AV.any, AV.any, AV.any, AV.any, AV.any, AV.any, AV.any, AV.any, AV.any, AV.any, AV.any, AV.any, AV.any, AV.any, AV.any, AV.any, AV.any, AV.any, AV.any, AV.any, AV.any, AV.any, AV.any, AV.any, AV.any, AV.any, AV.any, AV.any, AV.any, AV.any, AV.any, AV.any, AV.any, AV.any] [some (Blk.mk false (54 : TypeId) (6 : Nat) true (List.map enE l))] = szS2 l p p' ∧ szI2 l p p' ∧ List.length l + (1 : Nat) - p' < List.length l + (1 : Nat) - p_1)) ∧ (Decidable.decide ((↑p_1 : Int) < (↑p : Int)) = false → inRange IntKind.i64 ((↑p : Int) + (1 : Int)) ∧ ∃ (p' : Nat), St.mk [AV.vsl (0 : Nat) (0 : Nat) (List.length (List.map enE l)), AV.any, AV.any, AV.int IntKind.i64 ((↑p : Int) + (1 : Int)), AV.any, AV.any, AV.any, AV.any, AV.any, AV.any, AV.any, AV.any, AV.any, AV.any, AV.any, AV.any, AV.any, AV.any, AV.any, AV.any, AV.any, AV.any, AV.any, AV.any, AV.any, AV.any, AV.any, AV.any, AV.any, AV.any, AV.any, AV.any, AV.any, AV.any, AV.any, AV.any, AV.any, AV.any, AV.any, AV.any] [some (Blk.mk false (54 : TypeId) (6 : Nat) true (List.map enE l))] = szS l p' ∧ szI l p' ∧ List.length l + (1 : Nat) - p' < List.length l + (1 : Nat) - p)) ∧ (Decidable.decide ((↑p : Int) < (↑(List.length (List.map enE l)) : Int)) = false → AV.bool true = r)) := by kernel_rfl

theorem rsimple10Cs_ok : ∀ e ∈ rsimple10Cs, SpecOK Try.prog e.1 e.2 := by
  intro e he
  simp only [rsimple10Cs, List.mem_cons, List.not_mem_nil, or_false] at he
  rcases he with rfl
  · exact rwmeet_ok

theorem rsimple10_ok : SpecOK Try.prog 16 (genSpec [pRefE] rsimple10F) := by
  refine genSpec_ok (run_ok (l := rsimple10Cs) rsimple10Cs_ok mixed noNG) fun l R hF => ?_
  unfold rsimple10F at hF
  split at hF
  · rename_i r_l
    obtain ⟨hr_l, hl, hF⟩ := hF
    generalize deE r_l = l at hr_l hl hF
    subst hr_l
    refine ⟨_, hF, rfl, (szH l), ?_⟩
    show run rsimple10Cs Try.prog _ [.vsl 0 0 (l.map enE).length] [some ⟨false, (pRefE.getD (0, 0)).1, (pRefE.getD (0, 0)).2, true, (l.map enE)⟩] _ _
    rw [rsimple10_run]
    refine ⟨⟨rfl, Nat.zero_le _, fun i hi => by omega⟩, ?_⟩
    rintro p ⟨h1, h2⟩
    refine ⟨fun hlt => ⟨⟨rfl, Nat.zero_le _, fun j hj => by omega⟩, ?_⟩, fun hge => ?_⟩
    · have hp : p < l.length := by simp only [decide_eq_true_eq, List.length_map] at hlt; omega
      have B : 0 ≤ (p : Int) ∧ (p : Int) < ((l.map enE).length : Int) := by rw [List.length_map]; omega
      rintro k ⟨k1, k2⟩
      refine ⟨fun hlt => ?_, fun hge => ?_⟩
      · have hk : k < p := by simp only [decide_eq_true_eq] at hlt; omega
        have Bk : 0 ≤ (k : Int) ∧ (k : Int) < ((l.map enE).length : Int) := by rw [List.length_map]; omega
        have nx : ((at' l p).len = (at' l k).len → meE (at' l p) (at' l k) = false) → ∃ p', (⟨[.vsl 0 0 (l.map enE).length, .any, .any, .int .i64 p, .int .i64 ((k : Int) + 1), .any, .any, .any, .any, .any, .any, .any, .any, .any, .any, .any, .any, .any, .any, .any, .any, .any, .any, .any, .any, .any, .any, .any, .any, .any, .any, .any, .any, .any, .any, .any, .any, .any, .any, .any], [some ⟨false, 54, 6, true, l.map enE⟩]⟩ : St) = szS2 l p p' ∧ szI2 l p p' ∧ l.length + 1 - p' < l.length + 1 - k := fun h => by
          refine ⟨k + 1, rfl, ⟨hk, fun j hj => ?_⟩, by omega⟩
          rcases Nat.lt_or_eq_of_le (Nat.le_of_lt_succ hj) with h' | rfl
          · exact k2 j h'
          · exact h
        have i1 : inRange .i64 ((k : Int) + 1) := inR (by omega) (by omega)
        refine ⟨B, read_rows B.1 B.2 (ref_len _), Bk, read_rows Bk.1 Bk.2 (ref_len _), fun he => ⟨B, read_rows B.1 B.2 (ref_word _), Bk, read_rows Bk.1 Bk.2 (ref_word _), fun hm => ?_, fun hm => ⟨i1, nx fun _ => hm⟩⟩, fun hne => ⟨i1, nx fun e => ?_⟩⟩
        · have he : (at' l p).len = (at' l k).len := by simpa using he
          have : siE l = false := by
            unfold siE
            rw [decide_eq_false_iff_not]
            intro hh
            have := hh p hp k hk he
            rw [show meE (at' l p) (at' l k) = true from hm] at this; cases this
          rw [this]
        · have hne : (at' l p).len ≠ (at' l k).len := by simpa using hne
          exact absurd e hne
      · have hk : k = p := by simp only [decide_eq_false_iff_not] at hge; omega
        subst hk
        refine ⟨inR (by omega) (by omega), k + 1, rfl, ⟨hp, fun i hi => ?_⟩, by omega⟩
        rcases Nat.lt_or_eq_of_le (Nat.le_of_lt_succ hi) with h' | rfl
        · exact h2 i h'
        · exact k2
    · have hp : p = l.length := by simp only [decide_eq_false_iff_not, List.length_map] at hge; omega
      subst hp
      have : siE l = true := by unfold siE; exact decide_eq_true h2
      rw [this]
  · exact hF.elim


end Go.Proofs.Ytnjbgbdcbejciaa.L1
end

section
/-
  Layer 10: the document's Of and Build; the law's same.
-/
namespace Go.Proofs.Ytnjbgbdcbejciaa.L1
open Go.Sx Go.Sx.M

/-- A route's entry. -/
def rtOE (r : Ro) : En := ⟨r.p.a &&& mkW r.p.len, r.p.b &&& mkW (r.p.len - 64), mkW r.p.len, mkW (r.p.len - 64), clamp r.p.len, r.act⟩

/-- A table's entries. -/
def bdE (l : List Ro) (m : Int) : List En :=
  if m = 0 then srE (l.map rtOE) else if m = 1 then srE ((kpR l).map rtOE) else if m = 2 then mrE ((kpR l).map rtOE) else []

theorem eqEn (x y : En) : (x.v == y.v && x.w == y.w && (x.m == y.m && x.n == y.n) && (x.len == y.len && x.act == y.act)) = decide (x = y) := by
  rw [Bool.eq_iff_iff, decide_eq_true_eq]
  cases x; cases y
  simp [and_assoc]

theorem bd_not {l : List Ro} {m : Int} (h : m < 0 ∨ m > 2) : bdE l m = [] := by
  unfold bdE
  rw [if_neg (by omega), if_neg (by omega), if_neg (by omega)]

end Go.Proofs.Ytnjbgbdcbejciaa.L1
end

section
/-
  Layer 10: a table's entries: plain mathematics.
-/
namespace Go.Proofs.Ytnjbgbdcbejciaa.L1
open Go.Sx Go.Sx.M

theorem rt_match (r : Ro) (c d : BitVec 64) : mtE (rtOE r) c d = mtP r.p c d := by
  rw [Bool.eq_iff_iff, mtP_iff]
  unfold mtE
  rw [wmB_iff]
  refine forall_congr' fun i => forall_congr' fun hi => ?_
  show bitAt (mkW r.p.len) (mkW (r.p.len - 64)) i = true → bitAt (r.p.a &&& mkW r.p.len) (r.p.b &&& mkW (r.p.len - 64)) i = bitAt c d i ↔ _
  rw [bitAt_cut _ _ _ hi, bitAt_mk _ hi, decide_eq_true_eq]
  exact ⟨fun h hk => by have := h hk; rw [decide_eq_true hk, Bool.and_true] at this; exact this, fun h hk => by rw [decide_eq_true hk, Bool.and_true]; exact h hk⟩

theorem rt_len {w : Int} {r : Ro} (h : riP w r.p = true) (hw : w ≤ 128) : (rtOE r).len = r.p.len := by
  obtain ⟨_, h0, h1, _⟩ := riP_iff.1 h
  exact clamp_iff.2 ⟨h0, by omega⟩

/-- Two routes of a table that are as long do not meet. -/
theorem rt_apart {l : List Ro} (h : TB 128 l) {x y : Ro} (hx : x ∈ l) (hy : y ∈ l) (hl : (rtOE x).len = (rtOE y).len) (hm : meE (rtOE x) (rtOE y) = true) : x = y := by
  have hrx := h.rip hx
  have hry := h.rip hy
  rw [rt_len hrx (Int.le_refl _), rt_len hry (Int.le_refl _)] at hl
  have key : mtP y.p x.p.a x.p.b = true := mtP_iff.2 fun i hi hil => by
    unfold meE at hm
    rw [wtB_iff] at hm
    have := hm i hi (by show bitAt (mkW x.p.len) (mkW (x.p.len - 64)) i = true; rw [bitAt_mk _ hi, decide_eq_true_eq]; omega) (by show bitAt (mkW y.p.len) (mkW (y.p.len - 64)) i = true; rw [bitAt_mk _ hi, decide_eq_true_eq]; exact hil)
    have this : bitAt (x.p.a &&& mkW x.p.len) (x.p.b &&& mkW (x.p.len - 64)) i = bitAt (y.p.a &&& mkW y.p.len) (y.p.b &&& mkW (y.p.len - 64)) i := this
    rw [bitAt_cut _ _ _ hi, bitAt_cut _ _ _ hi, decide_eq_true (show (i : Int) < x.p.len by omega), decide_eq_true hil, Bool.and_true, Bool.and_true] at this
    exact this.symm
  have := riP_eq hrx hry hl (mtP_own x.p) key
  exact h.one hx hy this

theorem rt_simple {l : List Ro} (h : TB 128 l) : siE (l.map rtOE) = true := by
  rw [siE_pair, List.pairwise_map]
  refine h.sorted.imp_of_mem fun {x y} hx hy hxy hl => ?_
  cases e : meE (rtOE x) (rtOE y) with
  | false => rfl
  | true =>
    have := rt_apart h hx hy hl e
    subst this
    rw [cpP_self] at hxy; omega

theorem rt_tell {l : List Ro} (h : TB 128 l) (c d : BitVec 64) : tlI (l.map rtOE) c d = tlR l c d := by
  have hc := siE_clear (rt_simple h) c d
  unfold tlR
  rcases bsR_tb h c d with ⟨h1, h2⟩ | ⟨x, hx, h1, h2, h3⟩
  · rw [h1]
    rcases tl_cases (l.map rtOE) c d with ⟨e, _⟩ | ⟨u, hu, hum, _, _⟩
    · exact e
    · obtain ⟨r, hr, rfl⟩ := List.mem_map.1 hu
      rw [rt_match, h2 r hr] at hum; cases hum
  · rw [h1]
    refine tl_of hc (x := rtOE x) (List.mem_map_of_mem hx) (by rw [rt_match]; exact h2) fun u hu hum => ?_
    obtain ⟨r, hr, rfl⟩ := List.mem_map.1 hu
    rw [rt_match] at hum
    rw [rt_len (h.rip hr) (Int.le_refl _), rt_len (h.rip hx) (Int.le_refl _)]
    exact h3 r hr hum

/-- P10.2: a table's entries, in each mode. -/
theorem bd_spec {l : List Ro} (h : TB 128 l) {m : Int} (h0 : 0 ≤ m) (h1 : m ≤ 2) : siE (bdE l m) = true ∧ orE (bdE l m) = true ∧ ∀ c d, tlI (bdE l m) c d = tlR l c d := by
  have sorted : ∀ k : List En, siE k = true → siE (srE k) = true ∧ orE (srE k) = true ∧ ∀ c d, tlI (srE k) c d = tlI k c d := fun k hk => by
    have hs : siE (srE k) = true := by rw [siE_perm (srE_perm k)]; exact hk
    exact ⟨hs, sorted_ordered (srE_sorted k), fun c d => tell_perm (srE_perm k) (siE_clear hs c d)⟩
  have hk := kpR_tb h
  have ht : ∀ c d, tlI ((kpR l).map rtOE) c d = tlR l c d := fun c d => by rw [rt_tell hk, kpR_tell h]
  unfold bdE
  split
  · obtain ⟨a, b, c⟩ := sorted _ (rt_simple h)
    exact ⟨a, b, fun x y => by rw [c, rt_tell h]⟩
  · split
    · obtain ⟨a, b, c⟩ := sorted _ (rt_simple hk)
      exact ⟨a, b, fun x y => by rw [c, ht]⟩
    · rw [if_pos (by omega)]
      obtain ⟨a, c⟩ := mrE_simple (rt_simple hk)
      exact ⟨a, sorted_ordered (mrE_sorted _), fun x y => by rw [c, ht]⟩

theorem bd_len0 (l : List Ro) : (bdE l 0).length = l.length := by
  unfold bdE
  rw [if_pos rfl, srE_length, List.length_map]
theorem bd_len1 (l : List Ro) : (bdE l 1).length = (kpR l).length := by
  unfold bdE
  rw [if_neg (by decide), if_pos rfl, srE_length, List.length_map]
theorem bd_len2 (l : List Ro) : (bdE l 2).length ≤ (kpR l).length := by
  unfold bdE
  rw [if_neg (by decide), if_neg (by decide), if_pos rfl]
  have := (mrE_length ((kpR l).map rtOE)).1
  rw [List.length_map] at this
  exact this
theorem bd_len (l : List Ro) (m : Int) : (bdE l m).length ≤ l.length := by
  have hk := (kpR_sub l).length_le
  by_cases h0 : m = 0
  · subst h0; rw [bd_len0]; exact Nat.le_refl _
  · by_cases h1 : m = 1
    · subst h1; rw [bd_len1]; exact hk
    · by_cases h2 : m = 2
      · subst h2; exact Nat.le_trans (bd_len2 l) hk
      · rw [show bdE l m = [] from by unfold bdE; rw [if_neg h0, if_neg h1, if_neg h2]]
        exact Nat.zero_le _

end Go.Proofs.Ytnjbgbdcbejciaa.L1
end

section
/-
  Layer 10: what the contracts of the program's calls say; what the document fixes of two halves.
-/
namespace Go.Proofs.Ytnjbgbdcbejciaa.L1
open Go.Sx Go.Sx.M

def gmerge10F : List Arg → (Res → Prop) → Prop
  | [.row r_l], R => r_l = (deE r_l).map enE ∧ (deE r_l).length ≤ 1000000 ∧ R (.vrow 42 6 ((mrE (deE r_l)).map enE))
  | _, _ => False

def gbuild10F : List Arg → (Res → Prop) → Prop
  | [.row r_l, .v (.int .i64 m)], R => r_l = (deR r_l).map roE ∧ ((deR r_l).length ≤ 1000000 ∧ tbR 128 (deR r_l) = true) ∧ R (.vrow 42 6 ((bdE (deR r_l) m).map enE))
  | _, _ => False

theorem awake_ex {C : Sx.Call} (hC : COK Try.prog false C) {f : FuncId} (h : ∃ hs, C f [] [] hs (comesTo (.bool true))) : SpecOK Try.prog f awakeSpec := by
  obtain ⟨hs, r⟩ := h
  exact awake_ok hC r

end Go.Proofs.Ytnjbgbdcbejciaa.L1
end

