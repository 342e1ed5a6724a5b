/-
  Texts in one: L5T L5A L5B L5C L5D L5P.
-/
import Derived.Test.YtcabofadpheomaaL2a
import Derived.Test.YtcabofadpheomaaL4a
import Derived.Test.YtcabofadpheomaaL1a
import Derived.Test.YtcabofadpheomaaMa

section
/-
  Layer 5: entries as values of the calculus.
-/
namespace Go.Proofs.Ytcabofadpheomaa.L1
open Go.Sx Go.Sx.M

/-- An entry's cells. -/
def enE (x : En) : AV := .agg [.w64 x.v, .w64 x.w, .w64 x.m, .w64 x.n, .int .i64 x.len, .int .i64 x.act]

/-- The entry of such cells. -/
def deE1 (x : AV) : En := ⟨cW (x.cells.getD 0 .any), cW (x.cells.getD 1 .any), cW (x.cells.getD 2 .any), cW (x.cells.getD 3 .any), cI (x.cells.getD 4 .any), cI (x.cells.getD 5 .any)⟩

/-- The entries of a row. -/
def deE (l : List AV) : List En := l.map deE1

theorem deE_map (l : List En) : deE (l.map enE) = l := by
  unfold deE
  rw [List.map_map]
  exact List.map_id l

/-- Rows of the document's entries. -/
def pRefE : Par := some (45, 6)

theorem ref_word (x : En) : partOf Try.prog 43 (enE x).cells 0 = some (.agg [.w64 x.v, .w64 x.w, .w64 x.m, .w64 x.n]) := by kernel_rfl
theorem ref_whole (x : En) : partOf Try.prog 45 (enE x).cells 0 = some (enE x) := by kernel_rfl
theorem ref_len (x : En) : partOf Try.prog 3 (enE x).cells 4 = some (.int .i64 x.len) := by kernel_rfl
theorem ref_act (x : En) : partOf Try.prog 3 (enE x).cells 5 = some (.int .i64 x.act) := by kernel_rfl

/-- What the cells of an entry of a law's are. -/
theorem En_dec (cs : List Value) (h : fitsAll [.int .u64, .int .u64, .int .u64, .int .u64, .int .i64, .int .i64] cs) : ∃ x : En, (enE x).cells.length = 6 ∧ (enE x).sound = true ∧ AVRs [] (enE x).cells cs := by
  obtain ⟨x0, l0, rfl, f0, g0⟩ := fits_cons h
  obtain ⟨x1, l1, rfl, f1, g1⟩ := fits_cons g0
  obtain ⟨x2, l2, rfl, f2, g2⟩ := fits_cons g1
  obtain ⟨x3, l3, rfl, f3, g3⟩ := fits_cons g2
  obtain ⟨x4, l4, rfl, f4, g4⟩ := fits_cons g3
  obtain ⟨x5, l5, rfl, f5, g5⟩ := fits_cons g4
  obtain rfl := fits_nil g5
  obtain ⟨v, rfl⟩ := fits_u64 f0
  obtain ⟨w, rfl⟩ := fits_u64 f1
  obtain ⟨m, rfl⟩ := fits_u64 f2
  obtain ⟨n, rfl⟩ := fits_u64 f3
  obtain ⟨k, rfl, _⟩ := f4
  obtain ⟨j, rfl, _⟩ := f5
  exact ⟨⟨v, w, m, n, k, j⟩, rfl, rfl, .cons (.w64 _) (.cons (.w64 _) (.cons (.w64 _) (.cons (.w64 _) (.cons (.int _ _) (.cons (.int _ _) .nil)))))⟩

end Go.Proofs.Ytcabofadpheomaa.L1
end

section
/-
  Layer 5: entries as values of the calculus; contracts of the document's Above, First, Best, Tell, Ordered, Compare.
-/
namespace Go.Proofs.Ytcabofadpheomaa.L1
open Go.Sx Go.Sx.M

def raboveF : List Arg → (Res → Prop) → Prop
  | [.v (.agg [.w64 v, .w64 w, .w64 m, .w64 n, .int .i64 k, .int .i64 j]), .v (.agg [.w64 c, .w64 d, .w64 p, .w64 q, .int .i64 s, .int .i64 t])], R => R (.v (.bool (abE ⟨v, w, m, n, k, j⟩ ⟨c, d, p, q, s, t⟩)))
  | _, _ => False

noncomputable def raboveCs : List (FuncId × Sx.Spec) := [(84, genSpec [none, none] wmeetF)]

theorem rabove_run (v w m n : BitVec 64) (k j : Int) (c d p q : BitVec 64) (s t : Int) (r : AV) : run raboveCs Try.prog 62 [.agg [.w64 v, .w64 w, .w64 m, .w64 n, .int .i64 k, .int .i64 j], .agg [.w64 c, .w64 d, .w64 p, .w64 q, .int .i64 s, .int .i64 t]] [] [.fork [] []] (yields (.v r)) =
    ((Decidable.decide (k > s) = Bool.true → Go.Sx.AV.bool (Go.Sx.M.wtB v w m n c d p q) = r) ∧ (Decidable.decide (k > s) = Bool.false → Go.Sx.AV.bool Bool.false = r)) := by kernel_rfl

theorem raboveCs_ok : ∀ e ∈ raboveCs, SpecOK Try.prog e.1 e.2 := by
  intro e he
  simp only [raboveCs, List.mem_cons, List.not_mem_nil, or_false] at he
  rcases he with rfl
  · exact rwmeet_ok

theorem rabove_ok : SpecOK Try.prog 62 (genSpec [none, none] raboveF) := by
  refine genSpec_ok (run_ok (l := raboveCs) raboveCs_ok mixed noNG) fun l R hF => ?_
  unfold raboveF at hF
  split at hF
  · rename_i v w m n k j c d p q s t
    refine ⟨_, hF, rfl, [.fork [] []], ?_⟩
    show run raboveCs Try.prog _ [.agg [.w64 v, .w64 w, .w64 m, .w64 n, .int .i64 k, .int .i64 j], .agg [.w64 c, .w64 d, .w64 p, .w64 q, .int .i64 s, .int .i64 t]] [] _ _
    rw [rabove_run]
    unfold abE
    refine ⟨fun h => ?_, fun h => ?_⟩
    · rw [show decide (k > s) = true from h, Bool.true_and]; rfl
    · rw [show decide (k > s) = false from h, Bool.false_and]
  · exact hF.elim


end Go.Proofs.Ytcabofadpheomaa.L1
end

section
/-
  Layer 5: contracts of the document's Tell, Ordered, Compare; of the law's One and Of.
-/
namespace Go.Proofs.Ytcabofadpheomaa.L1
open Go.Sx Go.Sx.M

def roSt (l : List En) (p : Nat) : St := ⟨[.vsl 0 0 (l.map enE).length, .any, .any, .int .i64 p, .any, .any, .any, .any, .any, .any, .any, .any, .any, .any, .any, .any, .any, .any, .any, .any, .any, .any, .any, .any, .any, .any, .any, .any], [some ⟨false, 45, 6, true, l.map enE⟩]⟩
def roSt2 (l : List En) (p k : Nat) : St := ⟨[.vsl 0 0 (l.map enE).length, .any, .any, .int .i64 p, .int .i64 k, .any, .any, .any, .any, .any, .any, .any, .any, .any, .any, .any, .any, .any, .any, .any, .any, .any, .any, .any, .any, .any, .any, .any], [some ⟨false, 45, 6, true, l.map enE⟩]⟩
def roM0 : Modes := ⟨[1, 0, 0, 2, 0, 0, 0, 0, 0, 0, 0, 0, 0, 0, 0, 0, 0, 0, 0, 0, 0, 0, 0, 0, 0, 0, 0, 0], [], [], [], []⟩
def roM : Modes := ⟨[1, 0, 0, 1, 0, 0, 0, 0, 0, 0, 0, 0, 0, 0, 0, 0, 0, 0, 0, 0, 0, 0, 0, 0, 0, 0, 0, 0], [], [], [], []⟩
def roM' : Modes := ⟨[0, 0, 1, 0, 0, 0, 0, 0, 0, 0, 0, 0, 0, 0, 0, 0, 0, 0, 0, 0, 0, 0, 0, 0, 0, 0, 0, 0], [], [], [], []⟩
def roN0 : Modes := ⟨[1, 0, 0, 1, 2, 0, 0, 0, 0, 0, 0, 0, 0, 0, 0, 0, 0, 0, 0, 0, 0, 0, 0, 0, 0, 0, 0, 0], [], [], [], []⟩
def roN : Modes := ⟨[1, 0, 0, 1, 1, 0, 0, 0, 0, 0, 0, 0, 0, 0, 0, 0, 0, 0, 0, 0, 0, 0, 0, 0, 0, 0, 0, 0], [], [], [], []⟩
def roN' : Modes := ⟨[1, 0, 1, 1, 0, 0, 0, 0, 0, 0, 0, 0, 0, 0, 0, 0, 0, 0, 0, 0, 0, 0, 0, 0, 0, 0, 0, 0], [], [], [], []⟩
def roI (l : List En) (p : Nat) : Prop := p ≤ l.length ∧ ∀ i, i < p → ∀ k, k < l.length → i < k → abE (at' l k) (at' l i) = false
def roI2 (l : List En) (p k : Nat) : Prop := p < k ∧ k ≤ l.length ∧ ∀ j, p < j → j < k → abE (at' l j) (at' l p) = false
def roH (l : List En) : List Hint := [.linv _ 0 (roSt l) (roI l) (fun p => l.length + 1 - p) roM0 roM roM' (fun _ => []) fun p =>
  [.fork [.nw, .linv _ (p + 1) (roSt2 l p) (roI2 l p) (fun k => l.length + 1 - k) roN0 roN roN' (fun _ => [.nw]) fun k =>
    [.fork [.dy, .cell (enE (at' l k)), .dy, .cell (enE (at' l p)), .fork [] [.nw]] []]] []]]

def rtellF : List Arg → (Res → Prop) → Prop
  | [.row r_l, .v (.agg [.w64 a, .w64 b])], R => r_l = (deE r_l).map enE ∧ (deE r_l).length ≤ 9223372036854775807 ∧ R (.v (.int .i64 (tlI (deE r_l) a b)))
  | _, _ => False

def rorderedF : List Arg → (Res → Prop) → Prop
  | [.row r_l], R => r_l = (deE r_l).map enE ∧ (deE r_l).length ≤ 9223372036854775807 ∧ R (.v (.bool (orE (deE r_l))))
  | _, _ => False

noncomputable def rorderedCs : List (FuncId × Sx.Spec) := [(62, genSpec [none, none] raboveF)]

theorem rordered_run (l : List En) (r : AV) : run rorderedCs Try.prog 38 [.vsl 0 0 (l.map enE).length] [some ⟨false, (pRefE.getD (0, 0)).1, (pRefE.getD (0, 0)).2, true, (l.map enE)⟩] (roH l) (yields (.v r)) =
    (let y := AV.w64; let w := List.length l; let u := inRange IntKind.i64; let t := (1 : Nat); let j := (0 : Nat); let i := AV.int IntKind.i64; let g := List.length (List.map enE l); let x := AV.vsl j j g; let q := (↑g : Int); let f := Blk.mk false (45 : TypeId) (6 : Nat) true (List.map enE l); let e := AV.any;((St.mk [x, e, e, i (0 : Int), e, e, e, e, e, e, e, e, e, e, e, e, e, e, e, e, e, e, e, e, e, e, e, e] [some f] = roSt l j ∧ roI l j) ∧ ∀ (a : Nat), let n := at' l a; let k := (↑a : Int); let z := Decidable.decide (k < q); let s := k + (1 : Int); roI l a → (z = true → u s ∧ (St.mk [x, e, e, i k, i s, e, e, e, e, e, e, e, e, e, e, e, e, e, e, e, e, e, e, e, e, e, e, e] [some f] = roSt2 l a (a + t) ∧ roI2 l a (a + t)) ∧ ∀ (b : Nat), let o := (↑b : Int); let A := Decidable.decide (o < q); let m := at' l b; let h := abE (En.mk m.1 m.2 m.3 m.4 m.5 m.6) (En.mk n.1 n.2 n.3 n.4 n.5 n.6); roI2 l a b → (A = true → ((0 : Int) ≤ o ∧ o < q) ∧ Blk.read Proofs.Try.prog f (45 : Nat) (j + Int.toNat o) j = some (AV.agg [y m.1, y m.2, y m.3, y m.4, i m.5, i m.6]) ∧ ((0 : Int) ≤ k ∧ k < q) ∧ Blk.read Proofs.Try.prog f (45 : Nat) (j + Int.toNat k) j = some (AV.agg [y n.1, y n.2, y n.3, y n.4, i n.5, i n.6]) ∧ (h = true → AV.bool false = r) ∧ (h = false → u (o + (1 : Int)) ∧ ∃ (c : Nat), St.mk [x, e, e, i k, i (o + (1 : Int)), e, e, e, e, e, e, e, e, e, e, e, e, e, e, e, e, e, e, e, e, e, e, e] [some f] = roSt2 l a c ∧ roI2 l a c ∧ w + t - c < w + t - b)) ∧ (A = false → u s ∧ ∃ (d : Nat), St.mk [x, e, e, i s, e, e, e, e, e, e, e, e, e, e, e, e, e, e, e, e, e, e, e, e, e, e, e, e] [some f] = roSt l d ∧ roI l d ∧ w + t - d < w + t - a)) ∧ (z = false → AV.bool true = r))) := by kernel_rfl

theorem rorderedCs_ok : ∀ e ∈ rorderedCs, SpecOK Try.prog e.1 e.2 := by
  intro e he
  simp only [rorderedCs, List.mem_cons, List.not_mem_nil, or_false] at he
  rcases he with rfl
  · exact rabove_ok

theorem rordered_ok : SpecOK Try.prog 38 (genSpec [pRefE] rorderedF) := by
  refine genSpec_ok (run_ok (l := rorderedCs) rorderedCs_ok mixed noNG) fun l R hF => ?_
  unfold rorderedF at hF
  split at hF
  · rename_i r_l
    obtain ⟨hr_l, hl, hF⟩ := hF
    generalize deE r_l = l at hr_l hl hF
    subst hr_l
    refine ⟨_, hF, rfl, (roH l), ?_⟩
    show run rorderedCs Try.prog _ [.vsl 0 0 (l.map enE).length] [some ⟨false, (pRefE.getD (0, 0)).1, (pRefE.getD (0, 0)).2, true, (l.map enE)⟩] _ _
    rw [rordered_run]; (conv => zeta)
    refine ⟨⟨rfl, Nat.zero_le _, fun i hi => by omega⟩, ?_⟩
    rintro p ⟨h1, h2⟩
    refine ⟨fun hlt => ?_, fun hge => ?_⟩
    · have hp : p < l.length := by simp only [decide_eq_true_eq, List.length_map] at hlt; omega
      have Bp : 0 ≤ (p : Int) ∧ (p : Int) < ((l.map enE).length : Int) := by rw [List.length_map]; omega
      refine ⟨inR (by omega) (by omega), ⟨rfl, by omega, by omega, fun j h3 h4 => by omega⟩, ?_⟩
      rintro k ⟨h3, h4, h5⟩
      refine ⟨fun hlt => ?_, fun hge => ?_⟩
      · have hk : k < l.length := by simp only [decide_eq_true_eq, List.length_map] at hlt; omega
        have Bk : 0 ≤ (k : Int) ∧ (k : Int) < ((l.map enE).length : Int) := by rw [List.length_map]; omega
        refine ⟨Bk, read_rows Bk.1 Bk.2 (ref_whole _), Bp, read_rows Bp.1 Bp.2 (ref_whole _), fun ha => ?_, fun ha => ⟨inR (by omega) (by omega), k + 1, rfl, ⟨by omega, by omega, fun j h6 h7 => ?_⟩, by omega⟩⟩
        · rw [notT orE_iff fun h => by
            have := h p hp k hk h3
            rw [show abE (at' l k) (at' l p) = true from ha] at this; cases this]
        · rcases Nat.lt_or_eq_of_le (Nat.le_of_lt_succ h7) with h | rfl
          · exact h5 j h6 h
          · exact ha
      · have hk : k = l.length := by simp only [decide_eq_false_iff_not, List.length_map] at hge; omega
        subst hk
        refine ⟨inR (by omega) (by omega), p + 1, rfl, ⟨by omega, fun i hi k hk hik => ?_⟩, by omega⟩
        rcases Nat.lt_or_eq_of_le (Nat.le_of_lt_succ hi) with h | rfl
        · exact h2 i h k hk hik
        · exact h5 k hik hk
    · have hp : p = l.length := by simp only [decide_eq_false_iff_not, List.length_map] at hge; omega
      subst hp
      rw [orE_iff.2 h2]
  · exact hF.elim


def rcompareF : List Arg → (Res → Prop) → Prop
  | [.v (.agg [.w64 v, .w64 w, .w64 m, .w64 n, .int .i64 k, .int .i64 j]), .v (.agg [.w64 c, .w64 d, .w64 p, .w64 q, .int .i64 s, .int .i64 t])], R => R (.v (.int .i64 (cpE ⟨v, w, m, n, k, j⟩ ⟨c, d, p, q, s, t⟩)))
  | _, _ => False

def one5F : List Arg → (Res → Prop) → Prop
  | [.v (.agg [.w64 v, .w64 w, .w64 m, .w64 n, .int .i64 k, .int .i64 j])], R => R (.v (.agg [.w64 v, .w64 w, .w64 m, .w64 n, .int .i64 k, .int .i64 j]))
  | _, _ => False

theorem one5_run (v w m n : BitVec 64) (k j : Int) (r : AV) : run [] Try.prog 21 [.agg [.w64 v, .w64 w, .w64 m, .w64 n, .int .i64 k, .int .i64 j]] [] [] (yields (.v r)) =
    (AV.agg [AV.w64 v, AV.w64 w, AV.w64 m, AV.w64 n, AV.int IntKind.i64 k, AV.int IntKind.i64 j] = r) := by kernel_rfl

theorem one5_ok : SpecOK Try.prog 21 (genSpec [none] one5F) := by
  refine genSpec_ok none_ok fun l R hF => ?_
  unfold one5F at hF
  split at hF
  · rename_i v w m n k j
    refine ⟨_, hF, rfl, [], ?_⟩
    show run [] Try.prog _ [.agg [.w64 v, .w64 w, .w64 m, .w64 n, .int .i64 k, .int .i64 j]] [] _ _
    rw [one5_run]
    all_goals rfl
  · exact hF.elim


theorem en_whole (x : En) : partOf Try.prog 29 (enE x).cells 0 = some (enE x) := by kernel_rfl

def pEn : Par := some (29, 6)

end Go.Proofs.Ytcabofadpheomaa.L1
end

section
/-
  Layer 5: the contract of the document's Sort.
-/
namespace Go.Proofs.Ytcabofadpheomaa.L1
open Go.Sx Go.Sx.M

end Go.Proofs.Ytcabofadpheomaa.L1
end

section
/-
  Layer 5: what the contracts of the program's calls on entries say.
-/
namespace Go.Proofs.Ytcabofadpheomaa.L1
open Go.Sx Go.Sx.M

def erightF : List Arg → (Res → Prop) → Prop
  | [.v (.agg [.w64 v, .w64 w, .w64 m, .w64 n, .int .i64 k, .int .i64 j])], R => R (.v (.bool (rtE ⟨v, w, m, n, k, j⟩)))
  | _, _ => False

def eofF : List Arg → (Res → Prop) → Prop
  | [.v (.agg [.w64 a, .w64 b, .int .i64 k]), .v (.int .i64 j)], R => R (.v (.agg [.w64 (a &&& mkW k), .w64 (b &&& mkW (k - 64)), .w64 (mkW k), .w64 (mkW (k - 64)), .int .i64 (clamp k), .int .i64 j]))
  | _, _ => False

def ealikeF : List Arg → (Res → Prop) → Prop
  | [.v (.agg [.w64 v, .w64 w, .w64 m, .w64 n, .int .i64 k, .int .i64 _]), .v (.agg [.w64 c, .w64 d, .w64 p, .w64 q, .int .i64 s, .int .i64 _])], R => R (.v (.bool (alE ⟨v, w, m, n, k, 0⟩ ⟨c, d, p, q, s, 0⟩)))
  | _, _ => False

end Go.Proofs.Ytcabofadpheomaa.L1
end

section
/-
  Layer 5: contracts of the program's calls on entries: Right, Of, Above, Ordered, First, Best, Tell, Compare, Alike.
-/
namespace Go.Proofs.Ytcabofadpheomaa.L1
open Go.Sx Go.Sx.M

def cmpzF : List Arg → (Res → Prop) → Prop
  | [.v (.int .i64 m), .v (.int .i64 n)], R => R (.v (.int .i64 (cmpZ m n)))
  | _, _ => False

theorem mx0_of {x : Int} (h : 0 ≤ x) : mx0 x = x := by unfold mx0; rw [if_neg (by omega)]

def efM' : Modes := ⟨[0, 0, 0, 0, 2, 0, 0, 0, 0, 0, 0, 0, 0, 0, 0, 0, 0, 0, 0], [], [], [], []⟩

def eoFn : AV := .func (.func 92) [] [.ptr 1 0 0 true]

def eoSt (l : List En) (p : Nat) : St :=
  ⟨[.vsl 0 0 (l.map enE).length, .any, .any, .int .i64 (mnG l p), .any, .any, .any, .vsl 0 0 (l.map enE).length, .int .i64 (l.map enE).length, .int .i64 p, .any, .any, .any, .any, .any, .any, .any, .any, .any, .any, .any, .any, .any, .any, .any, .any, .any, .any, .any, .any, .any], [some ⟨false, 29, 6, true, l.map enE⟩]⟩
def eoSt2 (l : List En) (p k : Nat) : St :=
  ⟨[.vsl 0 0 p, eoFn, .any, .any, .any, .any, .any, .int .i64 p, .int .i64 k, .any, .any, .any, .any, .any, .any, .any, .any, .any, .any], [some ⟨false, 29, 6, true, l.map enE⟩, some ⟨true, 29, 6, true, [enE (at' l p)]⟩]⟩
def eoM0 : Modes := ⟨[1, 0, 0, 2, 0, 0, 0, 1, 1, 2, 0, 0, 0, 0, 0, 0, 0, 0, 0, 0, 0, 0, 0, 0, 0, 0, 0, 0, 0, 0, 0], [], [], [], []⟩
def eoM : Modes := ⟨[1, 0, 0, 1, 0, 0, 0, 1, 1, 1, 0, 0, 0, 0, 0, 0, 0, 0, 0, 0, 0, 0, 0, 0, 0, 0, 0, 0, 0, 0, 0], [], [], [], []⟩
def eoM' : Modes := ⟨[0, 0, 2, 0, 0, 0, 0, 0, 0, 0, 0, 0, 0, 0, 0, 0, 0, 0, 0, 0, 0, 0, 0, 0, 0, 0, 0, 0, 0, 0, 0], [], [], [], []⟩
def eoN0 : Modes := ⟨[1, 1, 0, 0, 0, 0, 0, 1, 2, 0, 0, 0, 0, 0, 0, 0, 0, 0, 0], [], [], [], []⟩
def eoN : Modes := ⟨[1, 1, 0, 0, 0, 0, 0, 1, 1, 0, 0, 0, 0, 0, 0, 0, 0, 0, 0], [], [], [], []⟩
def eoI2 (l : List En) (p k : Nat) : Prop := k ≤ p ∧ ∀ j, j < k → abE (at' l p) (at' l j) = false
def eoH (l : List En) : List Hint := [.linv _ 0 (eoSt l) (fun p => p ≤ l.length ∧ OrTo l p) (fun p => l.length + 1 - p) eoM0 eoM eoM' (fun _ => []) fun p =>
  [.fork [.dy, .cell (enE (at' l p)), .fork [.ix p, .linv _ 0 (eoSt2 l p) (eoI2 l p) (fun k => l.length + 1 - k) eoN0 eoN efM' (fun _ => [.br true]) fun k =>
    [.fork [.dy, .cell (enE (at' l k)), .fork [] [.nw]] []]] [.nw]] []]]

theorem cmpz_run (m n : Int) (r : AV) : run [] Try.prog 76 [.int .i64 m, .int .i64 n] [] [.br false, .br false, .fork [] [.fork [] []]] (yields (.v r)) =
    ((m != m) = false ∧ (n != n) = false ∧ (Decidable.decide (m < n) = true → AV.int IntKind.i64 (-1 : Int) = r) ∧ (Decidable.decide (m < n) = false → (Decidable.decide (m > n) = true → AV.int IntKind.i64 (1 : Int) = r) ∧ (Decidable.decide (m > n) = false → AV.int IntKind.i64 (0 : Int) = r))) := by kernel_rfl

theorem cmpz_ok : SpecOK Try.prog 76 (genSpec [none, none] cmpzF) := by
  refine genSpec_ok none_ok fun l R hF => ?_
  unfold cmpzF at hF
  split at hF
  · rename_i m n
    refine ⟨_, hF, rfl, [.br false, .br false, .fork [] [.fork [] []]], ?_⟩
    show run [] Try.prog _ [.int .i64 m, .int .i64 n] [] _ _
    rw [cmpz_run]
    simp only [decide_eq_true_eq, decide_eq_false_iff_not]
    refine ⟨by simp, by simp, fun h => ?_, fun h => ⟨fun h2 => ?_, fun h2 => ?_⟩⟩
    all_goals
      congr 1
      unfold cmpZ
    · rw [if_pos h]
    · rw [if_neg h, if_pos (by omega)]
    · rw [if_neg h, if_neg (by omega)]
  · exact hF.elim


noncomputable def erightCs : List (FuncId × Sx.Spec) := [(46, genSpec [none] wrightF)]

theorem eright_run (v w m n : BitVec 64) (k j : Int) (r : AV) : run erightCs Try.prog 26 [.agg [.w64 v, .w64 w, .w64 m, .w64 n, .int .i64 k, .int .i64 j]] [] [.fork [.fork [.fork [.fork [] []] []] []] []] (yields (.v r)) =
    (((v &&& m == v && w &&& n == w) = true → (Decidable.decide ((0 : Int) ≤ k) = true → (Decidable.decide (k ≤ (128 : Int)) = true → (Decidable.decide ((1 : Int) ≤ j) = true → AV.bool (Decidable.decide (j ≤ (255 : Int))) = r) ∧ (Decidable.decide ((1 : Int) ≤ j) = false → AV.bool false = r)) ∧ (Decidable.decide (k ≤ (128 : Int)) = false → AV.bool false = r)) ∧ (Decidable.decide ((0 : Int) ≤ k) = false → AV.bool false = r)) ∧ ((v &&& m == v && w &&& n == w) = false → AV.bool false = r)) := by kernel_rfl

theorem erightCs_ok : ∀ e ∈ erightCs, SpecOK Try.prog e.1 e.2 := by
  intro e he
  simp only [erightCs, List.mem_cons, List.not_mem_nil, or_false] at he
  rcases he with rfl
  · exact wright_ok

theorem eright_ok : SpecOK Try.prog 26 (genSpec [none] erightF) := by
  refine genSpec_ok (run_ok (l := erightCs) erightCs_ok mixed noNG) fun l R hF => ?_
  unfold erightF at hF
  split at hF
  · rename_i v w m n k j
    refine ⟨_, hF, rfl, [.fork [.fork [.fork [.fork [] []] []] []] []], ?_⟩
    show run erightCs Try.prog _ [.agg [.w64 v, .w64 w, .w64 m, .w64 n, .int .i64 k, .int .i64 j]] [] _ _
    rw [eright_run]
    refine ⟨fun h => ⟨fun h1 => ⟨fun h2 => ⟨fun h3 => ?_, fun h3 => ?_⟩, fun h2 => ?_⟩, fun h1 => ?_⟩, fun h => ?_⟩
    · rw [show rtE ⟨v, w, m, n, k, j⟩ = ((v &&& m == v && w &&& n == w) && (decide (0 ≤ k) && (decide (k ≤ 128) && (decide (1 ≤ j) && decide (j ≤ 255))))) from rfl, h, h1, h2, h3]; rfl
    · rw [show rtE ⟨v, w, m, n, k, j⟩ = ((v &&& m == v && w &&& n == w) && (decide (0 ≤ k) && (decide (k ≤ 128) && (decide (1 ≤ j) && decide (j ≤ 255))))) from rfl, h, h1, h2, h3]; rfl
    · rw [show rtE ⟨v, w, m, n, k, j⟩ = ((v &&& m == v && w &&& n == w) && (decide (0 ≤ k) && (decide (k ≤ 128) && (decide (1 ≤ j) && decide (j ≤ 255))))) from rfl, h, h1, h2]; rfl
    · rw [show rtE ⟨v, w, m, n, k, j⟩ = ((v &&& m == v && w &&& n == w) && (decide (0 ≤ k) && (decide (k ≤ 128) && (decide (1 ≤ j) && decide (j ≤ 255))))) from rfl, h, h1]; rfl
    · rw [show rtE ⟨v, w, m, n, k, j⟩ = ((v &&& m == v && w &&& n == w) && (decide (0 ≤ k) && (decide (k ≤ 128) && (decide (1 ≤ j) && decide (j ≤ 255))))) from rfl, h]; rfl
  · exact hF.elim


noncomputable def eofCs : List (FuncId × Sx.Spec) := [(47, genSpec [none, none] makeF),
  (48, genSpec [none] wofF)]

theorem eof_run (a b : BitVec 64) (k j : Int) (r : AV) : run eofCs Try.prog 28 [.agg [.w64 a, .w64 b, .int .i64 k], .int .i64 j] [] [] (yields (.v r)) =
    (AV.agg [AV.w64 (a &&& mkW k &&& mkW (clamp k)), AV.w64 (b &&& mkW (k - (64 : Int)) &&& mkW (clamp k - (64 : Int))), AV.w64 (mkW (clamp k)), AV.w64 (mkW (clamp k - (64 : Int))), AV.int IntKind.i64 (clamp k), AV.int IntKind.i64 j] = r) := by kernel_rfl

theorem eofCs_ok : ∀ e ∈ eofCs, SpecOK Try.prog e.1 e.2 := by
  intro e he
  simp only [eofCs, List.mem_cons, List.not_mem_nil, or_false] at he
  rcases he with rfl | rfl
  · exact pmake_ok
  · exact wof_ok

theorem eof_ok : SpecOK Try.prog 28 (genSpec [none, none] eofF) := by
  refine genSpec_ok (run_ok (l := eofCs) eofCs_ok mixed noNG) fun l R hF => ?_
  unfold eofF at hF
  split at hF
  · rename_i a b k j
    refine ⟨_, hF, rfl, [], ?_⟩
    show run eofCs Try.prog _ [.agg [.w64 a, .w64 b, .int .i64 k], .int .i64 j] [] _ _
    rw [eof_run]
    rw [(mkW_clamp k).1, (mkW_clamp k).2, BitVec.and_assoc, BitVec.and_self, BitVec.and_assoc, BitVec.and_self]
  · exact hF.elim


noncomputable def eaboveCs : List (FuncId × Sx.Spec) := [(96, genSpec [none, none] wmeetF)]

theorem eabove_run (v w m n : BitVec 64) (k j : Int) (c d p q : BitVec 64) (s t : Int) (r : AV) : run eaboveCs Try.prog 82 [.agg [.w64 v, .w64 w, .w64 m, .w64 n, .int .i64 k, .int .i64 j], .agg [.w64 c, .w64 d, .w64 p, .w64 q, .int .i64 s, .int .i64 t]] [] [.fork [] []] (yields (.v r)) =
    ((Decidable.decide (k > s) = true → AV.bool (wtB v w m n c d p q) = r) ∧ (Decidable.decide (k > s) = false → AV.bool false = r)) := by kernel_rfl

theorem eaboveCs_ok : ∀ e ∈ eaboveCs, SpecOK Try.prog e.1 e.2 := by
  intro e he
  simp only [eaboveCs, List.mem_cons, List.not_mem_nil, or_false] at he
  rcases he with rfl
  · exact wmeet_ok

theorem eabove_ok : SpecOK Try.prog 82 (genSpec [none, none] raboveF) := by
  refine genSpec_ok (run_ok (l := eaboveCs) eaboveCs_ok mixed noNG) fun l R hF => ?_
  unfold raboveF at hF
  split at hF
  · rename_i v w m n k j c d p q s t
    refine ⟨_, hF, rfl, [.fork [] []], ?_⟩
    show run eaboveCs Try.prog _ [.agg [.w64 v, .w64 w, .w64 m, .w64 n, .int .i64 k, .int .i64 j], .agg [.w64 c, .w64 d, .w64 p, .w64 q, .int .i64 s, .int .i64 t]] [] _ _
    rw [eabove_run]
    unfold abE
    refine ⟨fun h => ?_, fun h => ?_⟩
    · rw [show decide (k > s) = true from h, Bool.true_and]; rfl
    · rw [show decide (k > s) = false from h, Bool.false_and]
  · exact hF.elim


theorem ealike_run (v w m n : BitVec 64) (k j : Int) (c d p q : BitVec 64) (s t : Int) (r : AV) : run [] Try.prog 27 [.agg [.w64 v, .w64 w, .w64 m, .w64 n, .int .i64 k, .int .i64 j], .agg [.w64 c, .w64 d, .w64 p, .w64 q, .int .i64 s, .int .i64 t]] [] [.fork [] []] (yields (.v r)) =
    (((v == c && w == d && (m == p && n == q)) = true → AV.bool (k == s) = r) ∧ ((v == c && w == d && (m == p && n == q)) = false → AV.bool false = r)) := by kernel_rfl

theorem ealike_ok : SpecOK Try.prog 27 (genSpec [none, none] ealikeF) := by
  refine genSpec_ok none_ok fun l R hF => ?_
  unfold ealikeF at hF
  split at hF
  · rename_i v w m n k j c d p q s t
    refine ⟨_, hF, rfl, [.fork [] []], ?_⟩
    show run [] Try.prog _ [.agg [.w64 v, .w64 w, .w64 m, .w64 n, .int .i64 k, .int .i64 j], .agg [.w64 c, .w64 d, .w64 p, .w64 q, .int .i64 s, .int .i64 t]] [] _ _
    rw [ealike_run]
    refine ⟨fun h => ?_, fun h => ?_⟩
    · unfold alE
      rw [show (v == c && w == d && (m == p && n == q)) = true from h, Bool.true_and]
    · unfold alE
      rw [show (v == c && w == d && (m == p && n == q)) = false from h, Bool.false_and]
  · exact hF.elim


noncomputable def eorderedCs : List (FuncId × Sx.Spec) := [(82, genSpec [none, none] raboveF)]

theorem eordered_run (l : List En) (r : AV) : run eorderedCs Try.prog 79 [.vsl 0 0 (l.map enE).length] [some ⟨false, (pEn.getD (0, 0)).1, (pEn.getD (0, 0)).2, true, (l.map enE)⟩] (eoH l) (yields (.v r)) =
    ((St.mk [AV.vsl (0 : Nat) (0 : Nat) (List.length (List.map enE l)), AV.any, AV.any, AV.int IntKind.i64 (9223372036854775807 : Int), AV.any, AV.any, AV.any, AV.vsl (0 : Nat) (0 : Nat) (List.length (List.map enE l)), AV.int IntKind.i64 (↑(List.length (List.map enE l)) : Int), AV.int IntKind.i64 (0 : Int), AV.any, AV.any, AV.any, AV.any, AV.any, AV.any, AV.any, AV.any, AV.any, AV.any, AV.any, AV.any, AV.any, AV.any, AV.any, AV.any, AV.any, AV.any, AV.any, AV.any, AV.any] [some (Blk.mk false (29 : TypeId) (6 : Nat) true (List.map enE l))] = eoSt l (0 : Nat) ∧ (0 : Nat) ≤ List.length l ∧ OrTo l (0 : Nat)) ∧ ∀ (p : Nat), p ≤ List.length l ∧ OrTo l p → (Decidable.decide ((↑p : Int) < (↑(List.length (List.map enE l)) : Int)) = true → ((0 : Int) ≤ (↑p : Int) ∧ (↑p : Int) < (↑(List.length (List.map enE l)) : Int)) ∧ Blk.read Proofs.Try.prog (Blk.mk false (29 : TypeId) (6 : Nat) true (List.map enE l)) (29 : Nat) ((0 : Nat) + Int.toNat (↑p : Int)) (0 : Nat) = some (AV.agg [AV.w64 (at' l p).1, AV.w64 (at' l p).2, AV.w64 (at' l p).3, AV.w64 (at' l p).4, AV.int IntKind.i64 (at' l p).5, AV.int IntKind.i64 (at' l p).6]) ∧ (Decidable.decide ((at' l p).5 > mnG l p) = true → (↑p : Int) = (↑p : Int) ∧ p < List.length (List.map enE l) + (1 : Nat) ∧ (St.mk [AV.vsl (0 : Nat) ((0 : Nat) + (0 : Nat)) (p - (0 : Nat)), AV.func (Fn.func (92 : Nat)) [] [AV.ptr ((0 : Nat) + (1 : Nat)) (0 : Nat) (0 : Nat) true], AV.any, AV.any, AV.any, AV.any, AV.any, AV.int IntKind.i64 (↑(p - (0 : Nat)) : Int), AV.int IntKind.i64 (0 : Int), AV.any, AV.any, AV.any, AV.any, AV.any, AV.any, AV.any, AV.any, AV.any, AV.any] [some (Blk.mk false (29 : TypeId) (6 : Nat) true (List.map enE l)), some (Blk.mk true (nat_lit 29) (6 : Nat) true [AV.agg [AV.w64 (at' l p).1, AV.w64 (at' l p).2, AV.w64 (at' l p).3, AV.w64 (at' l p).4, AV.int IntKind.i64 (at' l p).5, AV.int IntKind.i64 (at' l p).6]])] = eoSt2 l p (0 : Nat) ∧ eoI2 l p (0 : Nat)) ∧ ∀ (p_1 : Nat), eoI2 l p p_1 → (Decidable.decide ((↑p_1 : Int) < (↑p : Int)) = true → ((0 : Int) ≤ (↑p_1 : Int) ∧ (↑p_1 : Int) < (↑p : Int)) ∧ Blk.read Proofs.Try.prog (Blk.mk false (29 : TypeId) (6 : Nat) true (List.map enE l)) (29 : Nat) ((0 : Nat) + Int.toNat (↑p_1 : Int)) (0 : Nat) = some (AV.agg [AV.w64 (at' l p_1).1, AV.w64 (at' l p_1).2, AV.w64 (at' l p_1).3, AV.w64 (at' l p_1).4, AV.int IntKind.i64 (at' l p_1).5, AV.int IntKind.i64 (at' l p_1).6]) ∧ (abE (En.mk (at' l p).1 (at' l p).2 (at' l p).3 (at' l p).4 (at' l p).5 (at' l p).6) (En.mk (at' l p_1).1 (at' l p_1).2 (at' l p_1).3 (at' l p_1).4 (at' l p_1).5 (at' l p_1).6) = true → Decidable.decide ((↑p_1 : Int) ≥ (0 : Int)) = true ∧ AV.bool false = r) ∧ (abE (En.mk (at' l p).1 (at' l p).2 (at' l p).3 (at' l p).4 (at' l p).5 (at' l p).6) (En.mk (at' l p_1).1 (at' l p_1).2 (at' l p_1).3 (at' l p_1).4 (at' l p_1).5 (at' l p_1).6) = false → inRange IntKind.i64 ((↑p_1 : Int) + (1 : Int)) ∧ ∃ (p' : Nat), St.mk [AV.vsl (0 : Nat) (0 : Nat) p, AV.func (Fn.func (92 : FuncId)) [] [AV.ptr ((0 : Nat) + (1 : Nat)) (0 : Nat) (0 : Nat) true], AV.any, AV.any, AV.any, AV.any, AV.any, AV.int IntKind.i64 (↑p : Int), AV.int IntKind.i64 ((↑p_1 : Int) + (1 : Int)), AV.any, AV.any, AV.any, AV.any, AV.any, AV.any, AV.any, AV.any, AV.any, AV.any] [some (Blk.mk false (29 : TypeId) (6 : Nat) true (List.map enE l)), some (Blk.mk true (29 : TypeId) (6 : Nat) true [AV.agg [AV.w64 (at' l p).1, AV.w64 (at' l p).2, AV.w64 (at' l p).3, AV.w64 (at' l p).4, AV.int IntKind.i64 (at' l p).5, AV.int IntKind.i64 (at' l p).6]])] = eoSt2 l p p' ∧ eoI2 l p p' ∧ List.length l + (1 : Nat) - p' < List.length l + (1 : Nat) - p_1)) ∧ (Decidable.decide ((↑p_1 : Int) < (↑p : Int)) = false → ∃ (p' : Nat), St.mk [AV.vsl (0 : Nat) (0 : Nat) (List.length (List.map enE l)), AV.any, AV.any, AV.int IntKind.i64 (if (at' l p).5 < mnG l p then (at' l p).5 else mnG l p), AV.any, AV.any, AV.any, AV.vsl (0 : Nat) (0 : Nat) (List.length (List.map enE l)), AV.int IntKind.i64 (↑(List.length (List.map enE l)) : Int), AV.int IntKind.i64 (IntKind.wrap IntKind.i64 ((↑p : Int) + (1 : Int))), AV.any, AV.any, AV.any, AV.any, AV.any, AV.any, AV.any, AV.any, AV.any, AV.any, AV.any, AV.any, AV.any, AV.any, AV.any, AV.any, AV.any, AV.any, AV.any, AV.any, AV.any] [some (Blk.mk false (29 : TypeId) (6 : Nat) true (List.map enE l))] = eoSt l p' ∧ (p' ≤ List.length l ∧ OrTo l p') ∧ List.length l + (1 : Nat) - p' < List.length l + (1 : Nat) - p)) ∧ (Decidable.decide ((at' l p).5 > mnG l p) = false → inRange IntKind.i64 ((↑p : Int) + (1 : Int)) ∧ ∃ (p' : Nat), St.mk [AV.vsl (0 : Nat) (0 : Nat) (List.length (List.map enE l)), AV.any, AV.any, AV.int IntKind.i64 (if (at' l p).5 < mnG l p then (at' l p).5 else mnG l p), AV.any, AV.any, AV.any, AV.vsl (0 : Nat) (0 : Nat) (List.length (List.map enE l)), AV.int IntKind.i64 (↑(List.length (List.map enE l)) : Int), AV.int IntKind.i64 ((↑p : Int) + (1 : Int)), AV.any, AV.any, AV.any, AV.any, AV.any, AV.any, AV.any, AV.any, AV.any, AV.any, AV.any, AV.any, AV.any, AV.any, AV.any, AV.any, AV.any, AV.any, AV.any, AV.any, AV.any] [some (Blk.mk false (29 : TypeId) (6 : Nat) true (List.map enE l))] = eoSt l p' ∧ (p' ≤ List.length l ∧ OrTo l p') ∧ List.length l + (1 : Nat) - p' < List.length l + (1 : Nat) - p)) ∧ (Decidable.decide ((↑p : Int) < (↑(List.length (List.map enE l)) : Int)) = false → AV.bool true = r)) := by kernel_rfl

theorem eorderedCs_ok : ∀ e ∈ eorderedCs, SpecOK Try.prog e.1 e.2 := by
  intro e he
  simp only [eorderedCs, List.mem_cons, List.not_mem_nil, or_false] at he
  rcases he with rfl
  · exact eabove_ok

theorem eordered_ok : SpecOK Try.prog 79 (genSpec [pEn] rorderedF) := by
  refine genSpec_ok (run_ok (l := eorderedCs) eorderedCs_ok mixed noNG) fun l R hF => ?_
  unfold rorderedF at hF
  split at hF
  · rename_i r_l
    obtain ⟨hr_l, hl, hF⟩ := hF
    generalize deE r_l = l at hr_l hl hF
    subst hr_l
    refine ⟨_, hF, rfl, (eoH l), ?_⟩
    show run eorderedCs Try.prog _ [.vsl 0 0 (l.map enE).length] [some ⟨false, (pEn.getD (0, 0)).1, (pEn.getD (0, 0)).2, true, (l.map enE)⟩] _ _
    rw [eordered_run]
    refine ⟨⟨rfl, Nat.zero_le _, fun k hk => by omega⟩, ?_⟩
    rintro p ⟨h1, h2⟩
    refine ⟨fun hlt => ?_, fun hge => ?_⟩
    · have hp : p < l.length := by simp only [decide_eq_true_eq, List.length_map] at hlt; omega
      have B : 0 ≤ (p : Int) ∧ (p : Int) < ((l.map enE).length : Int) := by rw [List.length_map]; omega
      have nx : ∀ x : Int, x = (p : Int) + 1 → OrTo l (p + 1) → ∃ p', (⟨[.vsl 0 0 (l.map enE).length, .any, .any, .int .i64 (if (at' l p).len < mnG l p then (at' l p).len else mnG l p), .any, .any, .any, .vsl 0 0 (l.map enE).length, .int .i64 (l.map enE).length, .int .i64 x, .any, .any, .any, .any, .any, .any, .any, .any, .any, .any, .any, .any, .any, .any, .any, .any, .any, .any, .any, .any, .any], [some ⟨false, 29, 6, true, l.map enE⟩]⟩ : St) = eoSt l p' ∧ (p' ≤ l.length ∧ OrTo l p') ∧ l.length + 1 - p' < l.length + 1 - p := fun x hx h => ⟨p + 1, by subst hx; rfl, ⟨by omega, h⟩, by omega⟩
      refine ⟨B, read_rows B.1 B.2 (en_whole _), fun hg => ⟨rfl, by rw [List.length_map]; omega, ⟨rfl, Nat.zero_le _, fun j hj => by omega⟩, ?_⟩, fun hg => ⟨inR (by omega) (by omega), nx _ rfl (h2.short (of_decide_eq_false hg))⟩⟩
      rintro k ⟨h3, h4⟩
      refine ⟨fun hlt => ?_, fun hge => nx _ (wrap_inRange (inR (by omega) (by omega))) (h2.next fun i hi => h4 i (by simp only [decide_eq_false_iff_not] at hge; omega))⟩
      have hk : (k : Int) < p := of_decide_eq_true hlt
      refine ⟨⟨by omega, hk⟩, read_rows (by omega) (by rw [List.length_map]; omega) (en_whole _), fun ha => ⟨by simp, ?_⟩, fun ha => ⟨inR (by omega) (by omega), k + 1, rfl, ⟨by omega, up h4 ha⟩, by omega⟩⟩
      rw [notT OrTo.all fun h => by
        have := h p hp k (by omega)
        rw [show abE (at' l p) (at' l k) = true from ha] at this; cases this]
    · have hp : p = l.length := by simp only [decide_eq_false_iff_not, List.length_map] at hge; omega
      subst hp
      rw [OrTo.all.2 h2]
  · exact hF.elim


end Go.Proofs.Ytcabofadpheomaa.L1
end

