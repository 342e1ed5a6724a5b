/-
  Texts in one: L5T L5A L5B L5C L5D L5P.
-/
import Derived.Test.YthfgocpejlhanaaL2a
import Derived.Test.YthfgocpejlhanaaL4a
import Derived.Test.YthfgocpejlhanaaL1a
import Derived.Test.YthfgocpejlhanaaMa

section
/-
  Layer 5: entries as values of the calculus.
-/
namespace Go.Proofs.Ythfgocpejlhanaa.L1
open Go.Sx Go.Sx.M

/-- An entry's cells. -/
def enE (x : En) : AV := .agg [.w64 x.v, .w64 x.w, .w64 x.m, .w64 x.n, .int .i64 x.len, .int .i64 x.act]

/-- The entry of such cells. -/
def deE1 (x : AV) : En := ⟨cW (x.cells.getD 0 .any), cW (x.cells.getD 1 .any), cW (x.cells.getD 2 .any), cW (x.cells.getD 3 .any), cI (x.cells.getD 4 .any), cI (x.cells.getD 5 .any)⟩

/-- The entries of a row. -/
def deE (l : List AV) : List En := l.map deE1

theorem deE_map (l : List En) : deE (l.map enE) = l := by
  unfold deE
  rw [List.map_map]
  exact List.map_id l

/-- Rows of the document's entries. -/
def pRefE : Par := some (45, 6)

theorem ref_word (x : En) : partOf Try.prog 31 (enE x).cells 0 = some (.agg [.w64 x.v, .w64 x.w, .w64 x.m, .w64 x.n]) := by kernel_rfl
theorem ref_whole (x : En) : partOf Try.prog 45 (enE x).cells 0 = some (enE x) := by kernel_rfl
theorem ref_len (x : En) : partOf Try.prog 3 (enE x).cells 4 = some (.int .i64 x.len) := by kernel_rfl
theorem ref_act (x : En) : partOf Try.prog 3 (enE x).cells 5 = some (.int .i64 x.act) := by kernel_rfl

/-- What the cells of an entry of a law's are. -/
theorem En_dec (cs : List Value) (h : fitsAll [.int .u64, .int .u64, .int .u64, .int .u64, .int .i64, .int .i64] cs) : ∃ x : En, (enE x).cells.length = 6 ∧ (enE x).sound = true ∧ AVRs [] (enE x).cells cs := by
  obtain ⟨x0, l0, rfl, f0, g0⟩ := fits_cons h
  obtain ⟨x1, l1, rfl, f1, g1⟩ := fits_cons g0
  obtain ⟨x2, l2, rfl, f2, g2⟩ := fits_cons g1
  obtain ⟨x3, l3, rfl, f3, g3⟩ := fits_cons g2
  obtain ⟨x4, l4, rfl, f4, g4⟩ := fits_cons g3
  obtain ⟨x5, l5, rfl, f5, g5⟩ := fits_cons g4
  obtain rfl := fits_nil g5
  obtain ⟨v, rfl⟩ := fits_u64 f0
  obtain ⟨w, rfl⟩ := fits_u64 f1
  obtain ⟨m, rfl⟩ := fits_u64 f2
  obtain ⟨n, rfl⟩ := fits_u64 f3
  obtain ⟨k, rfl, _⟩ := f4
  obtain ⟨j, rfl, _⟩ := f5
  exact ⟨⟨v, w, m, n, k, j⟩, rfl, rfl, .cons (.w64 _) (.cons (.w64 _) (.cons (.w64 _) (.cons (.w64 _) (.cons (.int _ _) (.cons (.int _ _) .nil)))))⟩

end Go.Proofs.Ythfgocpejlhanaa.L1
end

section
/-
  Layer 5: entries as values of the calculus; contracts of the document's Above, First, Best, Tell, Ordered, Compare.
-/
namespace Go.Proofs.Ythfgocpejlhanaa.L1
open Go.Sx Go.Sx.M

/-- Its word, as a value. -/
def wdE (x : En) : AV := .agg [.w64 x.v, .w64 x.w, .w64 x.m, .w64 x.n]

def rbSt (l : List En) (a b : BitVec 64) (n : Nat) : St :=
  ⟨[.vsl 0 0 (l.map enE).length, .any, .any, .ptr 1 0 0 true, .any, .int .i64 (bsG l a b n), .int .i64 ((l.length : Int) - 1 - n), .any, .any, .any, .any, .any, .any, .any, .any, .any, .any, .any, .any, .any, .any, .any, .any, .any, .any, .any, .any, .any, .any, .any, .any, .any, .any, .any, .any, .any, .any, .any, .any, .any], [some ⟨false, 45, 6, true, l.map enE⟩, some ⟨true, 23, 2, true, [.agg [.w64 a, .w64 b]]⟩]⟩
def rbM0 : Modes := ⟨[1, 0, 0, 1, 0, 2, 2, 0, 0, 0, 0, 0, 0, 0, 0, 0, 0, 0, 0, 0, 0, 0, 0, 0, 0, 0, 0, 0, 0, 0, 0, 0, 0, 0, 0, 0, 0, 0, 0, 0], [], [], [], []⟩
def rbM : Modes := ⟨[1, 0, 0, 1, 0, 1, 1, 0, 0, 0, 0, 0, 0, 0, 0, 0, 0, 0, 0, 0, 0, 0, 0, 0, 0, 0, 0, 0, 0, 0, 0, 0, 0, 0, 0, 0, 0, 0, 0, 0], [], [], [], []⟩
def rbI (l : List En) (n : Nat) : Prop := n ≤ l.length
def rbH (l : List En) (a b : BitVec 64) : List Hint := .nw :: [.linv _ 0 (rbSt l a b) (rbI l) (fun n => l.length + 1 - n) rbM0 rbM rbM (fun _ => []) fun n =>
  [.fork [.dy, .cell (wdE (at' l (l.length - 1 - n))), .fork [.fork [.nw] [.dy, .cell (.int .i64 (at' l (l.length - 1 - n)).len), .dy, .cell (.int .i64 (at' l (bsG l a b n).toNat).len), .fork [.nw] [.nw]]] [.nw]] []]]

def raboveF : List Arg → (Res → Prop) → Prop
  | [.v (.agg [.w64 v, .w64 w, .w64 m, .w64 n, .int .i64 k, .int .i64 j]), .v (.agg [.w64 c, .w64 d, .w64 p, .w64 q, .int .i64 s, .int .i64 t])], R => R (.v (.bool (abE ⟨v, w, m, n, k, j⟩ ⟨c, d, p, q, s, t⟩)))
  | _, _ => False

def rfirstF : List Arg → (Res → Prop) → Prop
  | [.row r_l, .v (.agg [.w64 a, .w64 b])], R => r_l = (deE r_l).map enE ∧ (deE r_l).length ≤ 9223372036854775807 ∧ R (.v (.int .i64 (fsI (deE r_l) a b)))
  | _, _ => False

noncomputable def rfirstCs : List (FuncId × Sx.Spec) := [(45, genSpec [none, none] wmatchF)]

theorem rfirstCs_ok : ∀ e ∈ rfirstCs, SpecOK Try.prog e.1 e.2 := by
  intro e he
  simp only [rfirstCs, List.mem_cons, List.not_mem_nil, or_false] at he
  rcases he with rfl
  · exact rwmatch_ok

def rbestF : List Arg → (Res → Prop) → Prop
  | [.row r_l, .v (.agg [.w64 a, .w64 b])], R => r_l = (deE r_l).map enE ∧ (deE r_l).length ≤ 9223372036854775807 ∧ R (.v (.int .i64 (bsI (deE r_l) a b)))
  | _, _ => False

noncomputable def rbestCs : List (FuncId × Sx.Spec) := [(45, genSpec [none, none] wmatchF)]

theorem rbest_run (l : List En) (a b : BitVec 64) (r : AV) : run rbestCs Try.prog 35 [.vsl 0 0 (l.map enE).length, .agg [.w64 a, .w64 b]] [some ⟨false, (pRefE.getD (0, 0)).1, (pRefE.getD (0, 0)).2, true, (l.map enE)⟩] (rbH l a b) (yields (.v r)) =
    (inRange IntKind.i64 ((↑(List.length (List.map enE l)) : Int) - (1 : Int)) ∧ (St.mk [AV.vsl (0 : Nat) (0 : Nat) (List.length (List.map enE l)), AV.any, AV.any, AV.ptr ((0 : Nat) + (1 : Nat)) (0 : Nat) (0 : Nat) true, AV.any, AV.int IntKind.i64 (-1 : Int), AV.int IntKind.i64 ((↑(List.length (List.map enE l)) : Int) - (1 : Int)), AV.any, AV.any, AV.any, AV.any, AV.any, AV.any, AV.any, AV.any, AV.any, AV.any, AV.any, AV.any, AV.any, AV.any, AV.any, AV.any, AV.any, AV.any, AV.any, AV.any, AV.any, AV.any, AV.any, AV.any, AV.any, AV.any, AV.any, AV.any, AV.any, AV.any, AV.any, AV.any, AV.any] [some (Blk.mk false (45 : TypeId) (6 : Nat) true (List.map enE l)), some (Blk.mk true (23 : Nat) (2 : Nat) true [AV.agg [AV.w64 a, AV.w64 b]])] = rbSt l a b (0 : Nat) ∧ rbI l (0 : Nat)) ∧ ∀ (p : Nat), rbI l p → (Decidable.decide ((↑(List.length l) : Int) - (1 : Int) - (↑p : Int) ≥ (0 : Int)) = true → ((0 : Int) ≤ (↑(List.length l) : Int) - (1 : Int) - (↑p : Int) ∧ (↑(List.length l) : Int) - (1 : Int) - (↑p : Int) < (↑(List.length (List.map enE l)) : Int)) ∧ Blk.read Proofs.Try.prog (Blk.mk false (45 : TypeId) (6 : Nat) true (List.map enE l)) (31 : Nat) ((0 : Nat) + Int.toNat ((↑(List.length l) : Int) - (1 : Int) - (↑p : Int))) ((0 : Nat) + (0 : Nat)) = some (AV.agg [AV.w64 (at' l (List.length l - (1 : Nat) - p)).1, AV.w64 (at' l (List.length l - (1 : Nat) - p)).2, AV.w64 (at' l (List.length l - (1 : Nat) - p)).3, AV.w64 (at' l (List.length l - (1 : Nat) - p)).4]) ∧ (wmB (at' l (List.length l - (1 : Nat) - p)).1 (at' l (List.length l - (1 : Nat) - p)).2 (at' l (List.length l - (1 : Nat) - p)).3 (at' l (List.length l - (1 : Nat) - p)).4 a b = true → (Decidable.decide (bsG l a b p < (0 : Int)) = true → inRange IntKind.i64 ((↑(List.length l) : Int) - (1 : Int) - (↑p : Int) - (1 : Int)) ∧ ∃ (p' : Nat), St.mk [AV.vsl (0 : Nat) (0 : Nat) (List.length (List.map enE l)), AV.any, AV.any, AV.ptr ((0 : Nat) + (1 : Nat)) (0 : Nat) (0 : Nat) true, AV.any, AV.int IntKind.i64 ((↑(List.length l) : Int) - (1 : Int) - (↑p : Int)), AV.int IntKind.i64 ((↑(List.length l) : Int) - (1 : Int) - (↑p : Int) - (1 : Int)), AV.any, AV.any, AV.any, AV.any, AV.any, AV.any, AV.any, AV.any, AV.any, AV.any, AV.any, AV.any, AV.any, AV.any, AV.any, AV.any, AV.any, AV.any, AV.any, AV.any, AV.any, AV.any, AV.any, AV.any, AV.any, AV.any, AV.any, AV.any, AV.any, AV.any, AV.any, AV.any, AV.any] [some (Blk.mk false (45 : TypeId) (6 : Nat) true (List.map enE l)), some (Blk.mk true (23 : TypeId) (2 : Nat) true [AV.agg [AV.w64 a, AV.w64 b]])] = rbSt l a b p' ∧ rbI l p' ∧ List.length l + (1 : Nat) - p' < List.length l + (1 : Nat) - p) ∧ (Decidable.decide (bsG l a b p < (0 : Int)) = false → ((0 : Int) ≤ (↑(List.length l) : Int) - (1 : Int) - (↑p : Int) ∧ (↑(List.length l) : Int) - (1 : Int) - (↑p : Int) < (↑(List.length (List.map enE l)) : Int)) ∧ Blk.read Proofs.Try.prog (Blk.mk false (45 : TypeId) (6 : Nat) true (List.map enE l)) (3 : Nat) ((0 : Nat) + Int.toNat ((↑(List.length l) : Int) - (1 : Int) - (↑p : Int))) ((0 : Nat) + (4 : Nat)) = some (AV.int IntKind.i64 (at' l (List.length l - (1 : Nat) - p)).5) ∧ ((0 : Int) ≤ bsG l a b p ∧ bsG l a b p < (↑(List.length (List.map enE l)) : Int)) ∧ Blk.read Proofs.Try.prog (Blk.mk false (45 : TypeId) (6 : Nat) true (List.map enE l)) (3 : Nat) ((0 : Nat) + Int.toNat (bsG l a b p)) ((0 : Nat) + (4 : Nat)) = some (AV.int IntKind.i64 (at' l (Int.toNat (bsG l a b p))).5) ∧ (Decidable.decide ((at' l (List.length l - (1 : Nat) - p)).5 ≥ (at' l (Int.toNat (bsG l a b p))).5) = true → inRange IntKind.i64 ((↑(List.length l) : Int) - (1 : Int) - (↑p : Int) - (1 : Int)) ∧ ∃ (p' : Nat), St.mk [AV.vsl (0 : Nat) (0 : Nat) (List.length (List.map enE l)), AV.any, AV.any, AV.ptr ((0 : Nat) + (1 : Nat)) (0 : Nat) (0 : Nat) true, AV.any, AV.int IntKind.i64 ((↑(List.length l) : Int) - (1 : Int) - (↑p : Int)), AV.int IntKind.i64 ((↑(List.length l) : Int) - (1 : Int) - (↑p : Int) - (1 : Int)), AV.any, AV.any, AV.any, AV.any, AV.any, AV.any, AV.any, AV.any, AV.any, AV.any, AV.any, AV.any, AV.any, AV.any, AV.any, AV.any, AV.any, AV.any, AV.any, AV.any, AV.any, AV.any, AV.any, AV.any, AV.any, AV.any, AV.any, AV.any, AV.any, AV.any, AV.any, AV.any, AV.any] [some (Blk.mk false (45 : TypeId) (6 : Nat) true (List.map enE l)), some (Blk.mk true (23 : TypeId) (2 : Nat) true [AV.agg [AV.w64 a, AV.w64 b]])] = rbSt l a b p' ∧ rbI l p' ∧ List.length l + (1 : Nat) - p' < List.length l + (1 : Nat) - p) ∧ (Decidable.decide ((at' l (List.length l - (1 : Nat) - p)).5 ≥ (at' l (Int.toNat (bsG l a b p))).5) = false → inRange IntKind.i64 ((↑(List.length l) : Int) - (1 : Int) - (↑p : Int) - (1 : Int)) ∧ ∃ (p' : Nat), St.mk [AV.vsl (0 : Nat) (0 : Nat) (List.length (List.map enE l)), AV.any, AV.any, AV.ptr ((0 : Nat) + (1 : Nat)) (0 : Nat) (0 : Nat) true, AV.any, AV.int IntKind.i64 (bsG l a b p), AV.int IntKind.i64 ((↑(List.length l) : Int) - (1 : Int) - (↑p : Int) - (1 : Int)), AV.any, AV.any, AV.any, AV.any, AV.any, AV.any, AV.any, AV.any, AV.any, AV.any, AV.any, AV.any, AV.any, AV.any, AV.any, AV.any, AV.any, AV.any, AV.any, AV.any, AV.any, AV.any, AV.any, AV.any, AV.any, AV.any, AV.any, AV.any, AV.any, AV.any, AV.any, AV.any, AV.any] [some (Blk.mk false (45 : TypeId) (6 : Nat) true (List.map enE l)), some (Blk.mk true (23 : TypeId) (2 : Nat) true [AV.agg [AV.w64 a, AV.w64 b]])] = rbSt l a b p' ∧ rbI l p' ∧ List.length l + (1 : Nat) - p' < List.length l + (1 : Nat) - p))) ∧ (wmB (at' l (List.length l - (1 : Nat) - p)).1 (at' l (List.length l - (1 : Nat) - p)).2 (at' l (List.length l - (1 : Nat) - p)).3 (at' l (List.length l - (1 : Nat) - p)).4 a b = false → inRange IntKind.i64 ((↑(List.length l) : Int) - (1 : Int) - (↑p : Int) - (1 : Int)) ∧ ∃ (p' : Nat), St.mk [AV.vsl (0 : Nat) (0 : Nat) (List.length (List.map enE l)), AV.any, AV.any, AV.ptr ((0 : Nat) + (1 : Nat)) (0 : Nat) (0 : Nat) true, AV.any, AV.int IntKind.i64 (bsG l a b p), AV.int IntKind.i64 ((↑(List.length l) : Int) - (1 : Int) - (↑p : Int) - (1 : Int)), AV.any, AV.any, AV.any, AV.any, AV.any, AV.any, AV.any, AV.any, AV.any, AV.any, AV.any, AV.any, AV.any, AV.any, AV.any, AV.any, AV.any, AV.any, AV.any, AV.any, AV.any, AV.any, AV.any, AV.any, AV.any, AV.any, AV.any, AV.any, AV.any, AV.any, AV.any, AV.any, AV.any] [some (Blk.mk false (45 : TypeId) (6 : Nat) true (List.map enE l)), some (Blk.mk true (23 : TypeId) (2 : Nat) true [AV.agg [AV.w64 a, AV.w64 b]])] = rbSt l a b p' ∧ rbI l p' ∧ List.length l + (1 : Nat) - p' < List.length l + (1 : Nat) - p)) ∧ (Decidable.decide ((↑(List.length l) : Int) - (1 : Int) - (↑p : Int) ≥ (0 : Int)) = false → AV.int IntKind.i64 (bsG l a b p) = r)) := by kernel_rfl

theorem rbestCs_ok : ∀ e ∈ rbestCs, SpecOK Try.prog e.1 e.2 := by
  intro e he
  simp only [rbestCs, List.mem_cons, List.not_mem_nil, or_false] at he
  rcases he with rfl
  · exact rwmatch_ok

theorem rbest_ok : SpecOK Try.prog 35 (genSpec [pRefE, none] rbestF) := by
  refine genSpec_ok (run_ok (l := rbestCs) rbestCs_ok mixed noNG) fun l R hF => ?_
  unfold rbestF at hF
  split at hF
  · rename_i r_l a b
    obtain ⟨hr_l, hl, hF⟩ := hF
    generalize deE r_l = l at hr_l hl hF
    subst hr_l
    refine ⟨_, hF, rfl, (rbH l a b), ?_⟩
    show run rbestCs Try.prog _ [.vsl 0 0 (l.map enE).length, .agg [.w64 a, .w64 b]] [some ⟨false, (pRefE.getD (0, 0)).1, (pRefE.getD (0, 0)).2, true, (l.map enE)⟩] _ _
    rw [rbest_run]
    refine ⟨by rw [List.length_map]; exact inR (by omega) (by omega), ⟨by unfold rbSt; rw [List.length_map]; simp only [bsG, Int.natCast_zero, Int.sub_zero], Nat.zero_le _⟩, ?_⟩
    intro n (hn : n ≤ l.length)
    have hs := bsG_spec l a b n hn
    refine ⟨fun hge => ?_, fun hlt => ?_⟩
    · have hn : n < l.length := by simp only [decide_eq_true_eq] at hge; omega
      have ek : ((l.length : Int) - 1 - n).toNat = l.length - 1 - n := by omega
      have B : 0 ≤ (l.length : Int) - 1 - n ∧ (l.length : Int) - 1 - n < ((l.map enE).length : Int) := by rw [List.length_map]; omega
      have i1 : inRange .i64 ((l.length : Int) - 1 - n - 1) := inR (by omega) (by omega)
      have st : ∀ x : Int, bsG l a b (n + 1) = x → (⟨[.vsl 0 0 (l.map enE).length, .any, .any, .ptr 1 0 0 true, .any, .int .i64 x, .int .i64 ((l.length : Int) - 1 - n - 1), .any, .any, .any, .any, .any, .any, .any, .any, .any, .any, .any, .any, .any, .any, .any, .any, .any, .any, .any, .any, .any, .any, .any, .any, .any, .any, .any, .any, .any, .any, .any, .any, .any], [some ⟨false, 45, 6, true, l.map enE⟩, some ⟨true, 23, 2, true, [.agg [.w64 a, .w64 b]]⟩]⟩ : St) = rbSt l a b (n + 1) := fun x hx => by
        unfold rbSt
        rw [hx, show (l.length : Int) - 1 - ((n + 1 : Nat) : Int) = (l.length : Int) - 1 - n - 1 from by omega]
      have nx : ∀ x : Int, bsG l a b (n + 1) = x → ∃ p', (⟨[.vsl 0 0 (l.map enE).length, .any, .any, .ptr 1 0 0 true, .any, .int .i64 x, .int .i64 ((l.length : Int) - 1 - n - 1), .any, .any, .any, .any, .any, .any, .any, .any, .any, .any, .any, .any, .any, .any, .any, .any, .any, .any, .any, .any, .any, .any, .any, .any, .any, .any, .any, .any, .any, .any, .any, .any, .any], [some ⟨false, 45, 6, true, l.map enE⟩, some ⟨true, 23, 2, true, [.agg [.w64 a, .w64 b]]⟩]⟩ : St) = rbSt l a b p' ∧ rbI l p' ∧ l.length + 1 - p' < l.length + 1 - n := fun x hx => by
        have h1 : n + 1 ≤ l.length := hn
        exact ⟨n + 1, st x hx, h1, Nat.sub_lt_sub_left (by omega) (by omega)⟩
      have rd : ∀ {t : TypeId} {o : Nat} {y : AV}, partOf Try.prog t (enE (at' l (l.length - 1 - n))).cells o = some y → (Blk.mk false 45 6 true (l.map enE)).read Try.prog t (0 + ((l.length : Int) - 1 - n).toNat) o = some y := fun h => read_rows B.1 B.2 (by rw [ek]; exact h)
      have eg : bsG l a b (n + 1) = if mtE (at' l (l.length - 1 - n)) a b && (decide (bsG l a b n < 0) || decide ((at' l (l.length - 1 - n)).len ≥ (at' l (bsG l a b n).toNat).len)) then ((l.length - 1 - n : Nat) : Int) else bsG l a b n := rfl
      have ei : ((l.length - 1 - n : Nat) : Int) = (l.length : Int) - 1 - n := by omega
      rw [ei] at eg
      refine ⟨B, rd (ref_word _), fun hm => ⟨fun hneg => ⟨i1, nx _ ?_⟩, fun hpos => ⟨B, rd (ref_len _), ?_, ?_, fun hge => ⟨i1, nx _ ?_⟩, fun hlt => ⟨i1, nx _ ?_⟩⟩⟩, fun hm => ⟨i1, nx _ ?_⟩⟩
      · rw [eg, show mtE (at' l (l.length - 1 - n)) a b = true from hm, hneg]; rfl
      · simp only [decide_eq_false_iff_not] at hpos
        rcases hs with ⟨h, _⟩ | ⟨i, h, _, h3, _⟩
        · omega
        · rw [h, List.length_map]; omega
      · simp only [decide_eq_false_iff_not] at hpos
        rcases hs with ⟨h, _⟩ | ⟨i, h, _, h3, _⟩
        · omega
        · exact read_rows (by omega) (by rw [h, List.length_map]; omega) (ref_len _)
      · rw [eg, show mtE (at' l (l.length - 1 - n)) a b = true from hm, hpos, hge]; rfl
      · rw [eg, show mtE (at' l (l.length - 1 - n)) a b = true from hm, hpos, hlt]; rfl
      · rw [eg, show mtE (at' l (l.length - 1 - n)) a b = false from hm]; rfl
    · have hp : n = l.length := by simp only [decide_eq_false_iff_not] at hlt; omega
      subst hp
      rfl
  · exact hF.elim


end Go.Proofs.Ythfgocpejlhanaa.L1
end

section
/-
  Layer 5: contracts of the document's Tell, Ordered, Compare; of the law's One and Of.
-/
namespace Go.Proofs.Ythfgocpejlhanaa.L1
open Go.Sx Go.Sx.M

def ofSt (F : List En → List AV) (l : List En) (p : Nat) : St :=
  ⟨[.any, .any, .any, .vsl 1 0 p, .any, .any, .vsl 0 0 (l.map enE).length, .int .i64 (l.map enE).length, .int .i64 p, .any, .any, .any, .any, .any, .any, .any, .any, .any, .any], [some ⟨false, 48, 6, true, l.map enE⟩, some ⟨true, 45, 6, true, F (l.take p)⟩]⟩
def ofM0 : Modes := ⟨[0, 0, 0, 1, 0, 0, 1, 1, 2, 0, 0, 0, 0, 0, 0, 0, 0, 0, 0], [], [], [], [(3, 45, 6)]⟩
def ofM : Modes := ⟨[0, 0, 0, 1, 0, 0, 1, 1, 1, 0, 0, 0, 0, 0, 0, 0, 0, 0, 0], [], [], [], []⟩
def ofH (F : List En → List AV) (l : List En) : List Hint := [.linv _ 0 (ofSt F l) (fun p => p ≤ l.length) (fun p => l.length + 1 - p) ofM0 ofM ofM (fun _ => []) fun p =>
  [.fork [.dy, .cell (enE (at' l p)), .rows (F (l.take (p + 1))), .nw] []]]

def rtellF : List Arg → (Res → Prop) → Prop
  | [.row r_l, .v (.agg [.w64 a, .w64 b])], R => r_l = (deE r_l).map enE ∧ (deE r_l).length ≤ 9223372036854775807 ∧ R (.v (.int .i64 (tlI (deE r_l) a b)))
  | _, _ => False

noncomputable def rtellCs : List (FuncId × Sx.Spec) := [(35, genSpec [pRefE, none] rbestF)]

theorem rtell_run (l : List En) (a b : BitVec 64) (r : AV) : run rtellCs Try.prog 23 [.vsl 0 0 (l.map enE).length, .agg [.w64 a, .w64 b]] [some ⟨false, (pRefE.getD (0, 0)).1, (pRefE.getD (0, 0)).2, true, (l.map enE)⟩] [.fork [] [.dy, .cell (.int .i64 (at' l (bsI l a b).toNat).act)]] (yields (.v r)) =
    ((0 : Nat) + List.length (List.map enE l) ≤ List.length (List.map enE l) ∧ List.take (List.length (List.map enE l)) (List.drop (0 : Nat) (List.map enE l)) = List.map enE (deE (List.take (List.length (List.map enE l)) (List.drop (0 : Nat) (List.map enE l)))) ∧ List.length (deE (List.take (List.length (List.map enE l)) (List.drop (0 : Nat) (List.map enE l)))) ≤ (9223372036854775807 : Nat) ∧ (Decidable.decide (bsI (deE (List.take (List.length (List.map enE l)) (List.drop (0 : Nat) (List.map enE l)))) a b < (0 : Int)) = true → AV.int IntKind.i64 (0 : Int) = r) ∧ (Decidable.decide (bsI (deE (List.take (List.length (List.map enE l)) (List.drop (0 : Nat) (List.map enE l)))) a b < (0 : Int)) = false → ((0 : Int) ≤ bsI (deE (List.take (List.length (List.map enE l)) (List.drop (0 : Nat) (List.map enE l)))) a b ∧ bsI (deE (List.take (List.length (List.map enE l)) (List.drop (0 : Nat) (List.map enE l)))) a b < (↑(List.length (List.map enE l)) : Int)) ∧ Blk.read Proofs.Try.prog (Blk.mk false (45 : TypeId) (6 : Nat) true (List.map enE l)) (3 : Nat) ((0 : Nat) + Int.toNat (bsI (deE (List.take (List.length (List.map enE l)) (List.drop (0 : Nat) (List.map enE l)))) a b)) ((0 : Nat) + (5 : Nat)) = some (AV.int IntKind.i64 (at' l (Int.toNat (bsI l a b))).6) ∧ AV.int IntKind.i64 (at' l (Int.toNat (bsI l a b))).6 = r)) := by kernel_rfl

theorem rtellCs_ok : ∀ e ∈ rtellCs, SpecOK Try.prog e.1 e.2 := by
  intro e he
  simp only [rtellCs, List.mem_cons, List.not_mem_nil, or_false] at he
  rcases he with rfl
  · exact rbest_ok

theorem rtell_ok : SpecOK Try.prog 23 (genSpec [pRefE, none] rtellF) := by
  refine genSpec_ok (run_ok (l := rtellCs) rtellCs_ok mixed noNG) fun l R hF => ?_
  unfold rtellF at hF
  split at hF
  · rename_i r_l a b
    obtain ⟨hr_l, hl, hF⟩ := hF
    generalize deE r_l = l at hr_l hl hF
    subst hr_l
    refine ⟨_, hF, rfl, [.fork [] [.dy, .cell (.int .i64 (at' l (bsI l a b).toNat).act)]], ?_⟩
    show run rtellCs Try.prog _ [.vsl 0 0 (l.map enE).length, .agg [.w64 a, .w64 b]] [some ⟨false, (pRefE.getD (0, 0)).1, (pRefE.getD (0, 0)).2, true, (l.map enE)⟩] _ _
    rw [rtell_run]
    rw [whole_row, deE_map]
    refine ⟨by simp, rfl, hl, fun h => ?_, fun h => ?_⟩
    · unfold tlI
      rw [if_pos (by simpa using h)]
    · simp only [decide_eq_false_iff_not] at h
      have B : 0 ≤ bsI l a b ∧ bsI l a b < ((l.map enE).length : Int) := by
        rcases bsI_spec l a b with ⟨h1, _⟩ | ⟨i, h1, _, h2, _⟩
        · omega
        · rw [h1, List.length_map]; omega
      refine ⟨B, read_rows B.1 B.2 (ref_act _), ?_⟩
      unfold tlI
      rw [if_neg h]
  · exact hF.elim


def rorderedF : List Arg → (Res → Prop) → Prop
  | [.row r_l], R => r_l = (deE r_l).map enE ∧ (deE r_l).length ≤ 9223372036854775807 ∧ R (.v (.bool (orE (deE r_l))))
  | _, _ => False

def rcompareF : List Arg → (Res → Prop) → Prop
  | [.v (.agg [.w64 v, .w64 w, .w64 m, .w64 n, .int .i64 k, .int .i64 j]), .v (.agg [.w64 c, .w64 d, .w64 p, .w64 q, .int .i64 s, .int .i64 t])], R => R (.v (.int .i64 (cpE ⟨v, w, m, n, k, j⟩ ⟨c, d, p, q, s, t⟩)))
  | _, _ => False

def one5F : List Arg → (Res → Prop) → Prop
  | [.v (.agg [.w64 v, .w64 w, .w64 m, .w64 n, .int .i64 k, .int .i64 j])], R => R (.v (.agg [.w64 v, .w64 w, .w64 m, .w64 n, .int .i64 k, .int .i64 j]))
  | _, _ => False

theorem one5_run (v w m n : BitVec 64) (k j : Int) (r : AV) : run [] Try.prog 20 [.agg [.w64 v, .w64 w, .w64 m, .w64 n, .int .i64 k, .int .i64 j]] [] [] (yields (.v r)) =
    (AV.agg [AV.w64 v, AV.w64 w, AV.w64 m, AV.w64 n, AV.int IntKind.i64 k, AV.int IntKind.i64 j] = r) := by kernel_rfl

theorem one5_ok : SpecOK Try.prog 20 (genSpec [none] one5F) := by
  refine genSpec_ok none_ok fun l R hF => ?_
  unfold one5F at hF
  split at hF
  · rename_i v w m n k j
    refine ⟨_, hF, rfl, [], ?_⟩
    show run [] Try.prog _ [.agg [.w64 v, .w64 w, .w64 m, .w64 n, .int .i64 k, .int .i64 j]] [] _ _
    rw [one5_run]
    all_goals rfl
  · exact hF.elim


theorem en_whole (x : En) : partOf Try.prog 48 (enE x).cells 0 = some (enE x) := by kernel_rfl

def pEn : Par := some (48, 6)

def of5F : List Arg → (Res → Prop) → Prop
  | [.row r_l], R => r_l = (deE r_l).map enE ∧ (deE r_l).length ≤ 1000000 ∧ R (.vrow 45 6 ((deE r_l).map enE))
  | _, _ => False

theorem of5_run (l : List En) (F : List En → List AV) (es : List AV) : run [] Try.prog 17 [.vsl 0 0 (l.map enE).length] [some ⟨false, (pEn.getD (0, 0)).1, (pEn.getD (0, 0)).2, true, (l.map enE)⟩] (ofH F l) (yields (.vrow 45 6 es)) =
    ((St.mk [AV.any, AV.any, AV.any, AV.vsl (List.length [some (Blk.mk false (48 : TypeId) (6 : Nat) true (List.map enE l))]) (0 : Nat) (0 : Nat), AV.any, AV.any, AV.vsl (0 : Nat) (0 : Nat) (List.length (List.map enE l)), AV.int IntKind.i64 (↑(List.length (List.map enE l)) : Int), AV.int IntKind.i64 (0 : Int), AV.any, AV.any, AV.any, AV.any, AV.any, AV.any, AV.any, AV.any, AV.any, AV.any] ([some (Blk.mk false (48 : TypeId) (6 : Nat) true (List.map enE l))] ++ [some (Blk.mk true (45 : TypeId) (6 : Nat) true [])]) = ofSt F l (0 : Nat) ∧ Nat.le (0 : Nat) (List.length l)) ∧ ∀ (p : Nat), Nat.le p (List.length l) → (Decidable.decide ((↑p : Int) < (↑(List.length (List.map enE l)) : Int)) = true → ((0 : Int) ≤ (↑p : Int) ∧ (↑p : Int) < (↑(List.length (List.map enE l)) : Int)) ∧ Blk.read Proofs.Try.prog (Blk.mk false (48 : TypeId) (6 : Nat) true (List.map enE l)) (48 : Nat) ((0 : Nat) + Int.toNat (↑p : Int)) (0 : Nat) = some (AV.agg [AV.w64 (at' l p).1, AV.w64 (at' l p).2, AV.w64 (at' l p).3, AV.w64 (at' l p).4, AV.int IntKind.i64 (at' l p).5, AV.int IntKind.i64 (at' l p).6]) ∧ ((p + (1 : Nat)) * (48 : Nat) ≤ (140737488355328 : Nat) ∧ p + (1 : Nat) ≤ (9223372036854775807 : Nat) ∧ (0 : Nat) + (1 : Nat) ≤ List.length [AV.agg [AV.w64 (at' l p).1, AV.w64 (at' l p).2, AV.w64 (at' l p).3, AV.w64 (at' l p).4, AV.int IntKind.i64 (at' l p).5, AV.int IntKind.i64 (at' l p).6]] ∧ p ≤ List.length (F (List.take p l))) ∧ List.take p (F (List.take p l)) ++ [AV.agg [AV.w64 (at' l p).1, AV.w64 (at' l p).2, AV.w64 (at' l p).3, AV.w64 (at' l p).4, AV.int IntKind.i64 (at' l p).5, AV.int IntKind.i64 (at' l p).6]] = F (List.take (p + (1 : Nat)) l) ∧ inRange IntKind.i64 ((↑p : Int) + (1 : Int)) ∧ ∃ (p' : Nat), St.mk [AV.any, AV.any, AV.any, AV.vsl ((0 : Nat) + (1 : Nat)) (0 : Nat) (p + (1 : Nat)), AV.any, AV.any, AV.vsl (0 : Nat) (0 : Nat) (List.length (List.map enE l)), AV.int IntKind.i64 (↑(List.length (List.map enE l)) : Int), AV.int IntKind.i64 ((↑p : Int) + (1 : Int)), AV.any, AV.any, AV.any, AV.any, AV.any, AV.any, AV.any, AV.any, AV.any, AV.any] [some (Blk.mk false (48 : TypeId) (6 : Nat) true (List.map enE l)), some (Blk.mk true (45 : Nat) (6 : Nat) true (F (List.take (p + (1 : Nat)) l)))] = ofSt F l p' ∧ Nat.le p' (List.length l) ∧ List.length l + (1 : Nat) - p' < List.length l + (1 : Nat) - p) ∧ (Decidable.decide ((↑p : Int) < (↑(List.length (List.map enE l)) : Int)) = false → p = List.length es ∧ some (Blk.mk true (45 : TypeId) (6 : Nat) true (F (List.take p l))) = some (Blk.mk true (45 : TypeId) (6 : Nat) true es))) := by kernel_rfl

theorem of5_ok : SpecOK Try.prog 17 (genSpec [pEn] of5F) := by
  refine genSpec_ok none_ok fun l R hF => ?_
  unfold of5F at hF
  split at hF
  · rename_i r_l
    obtain ⟨hr_l, hl, hF⟩ := hF
    generalize deE r_l = l at hr_l hl hF
    subst hr_l
    refine ⟨_, hF, trivial, (ofH (List.map enE) l), ?_⟩
    show run [] Try.prog _ [.vsl 0 0 (l.map enE).length] [some ⟨false, (pEn.getD (0, 0)).1, (pEn.getD (0, 0)).2, true, (l.map enE)⟩] _ _
    rw [of5_run]
    have lt : ∀ p, p ≤ l.length → ((l.take p).map enE).length = p := fun p hp => by rw [List.length_map, List.length_take]; omega
    refine ⟨⟨rfl, Nat.zero_le _⟩, ?_⟩
    intro p hp
    have hp : p ≤ l.length := hp
    refine ⟨fun hlt => ?_, fun hge => ?_⟩
    · have hlt : p < l.length := by simp only [decide_eq_true_eq, List.length_map] at hlt; omega
      have B : 0 ≤ (p : Int) ∧ (p : Int) < ((l.map enE).length : Int) := by rw [List.length_map]; omega
      refine ⟨B, read_rows B.1 B.2 (en_whole _), ⟨by omega, by omega, by simp, by rw [lt p hp]; omega⟩, ?_, inR (by omega) (by omega), p + 1, rfl, (by omega : p + 1 ≤ l.length), by omega⟩
      rw [List.take_of_length_le (by rw [lt p hp]; omega), List.take_add_one, at_get hlt, List.map_append]
      rfl
    · have hp : p = l.length := by simp only [decide_eq_false_iff_not, List.length_map] at hge; omega
      subst hp
      rw [List.take_length, List.length_map]
      exact ⟨rfl, rfl⟩
  · exact hF.elim


end Go.Proofs.Ythfgocpejlhanaa.L1
end

section
/-
  Layer 5: the contract of the document's Sort.
-/
namespace Go.Proofs.Ythfgocpejlhanaa.L1
open Go.Sx Go.Sx.M

end Go.Proofs.Ythfgocpejlhanaa.L1
end

section
/-
  Layer 5: what the contracts of the program's calls on entries say.
-/
namespace Go.Proofs.Ythfgocpejlhanaa.L1
open Go.Sx Go.Sx.M

def erightF : List Arg → (Res → Prop) → Prop
  | [.v (.agg [.w64 v, .w64 w, .w64 m, .w64 n, .int .i64 k, .int .i64 j])], R => R (.v (.bool (rtE ⟨v, w, m, n, k, j⟩)))
  | _, _ => False

def eofF : List Arg → (Res → Prop) → Prop
  | [.v (.agg [.w64 a, .w64 b, .int .i64 k]), .v (.int .i64 j)], R => R (.v (.agg [.w64 (a &&& mkW k), .w64 (b &&& mkW (k - 64)), .w64 (mkW k), .w64 (mkW (k - 64)), .int .i64 (clamp k), .int .i64 j]))
  | _, _ => False

def efirstF : List Arg → (Res → Prop) → Prop
  | [.row r_l, .v (.agg [.w64 a, .w64 b])], R => r_l = (deE r_l).map enE ∧ (deE r_l).length ≤ 9223372036854775807 ∧ R (.v (.tuple [.int .i64 (mx0 (fsI (deE r_l) a b)), .bool (decide (fsI (deE r_l) a b ≥ 0))]))
  | _, _ => False

def ebestF : List Arg → (Res → Prop) → Prop
  | [.row r_l, .v (.agg [.w64 a, .w64 b])], R => r_l = (deE r_l).map enE ∧ (deE r_l).length ≤ 9223372036854775807 ∧ R (.v (.tuple [.int .i64 (mx0 (bsI (deE r_l) a b)), .bool (decide (bsI (deE r_l) a b ≥ 0))]))
  | _, _ => False

end Go.Proofs.Ythfgocpejlhanaa.L1
end

section
/-
  Layer 5: contracts of the program's calls on entries: Right, Of, Above, Ordered, First, Best, Tell, Compare, Alike.
-/
namespace Go.Proofs.Ythfgocpejlhanaa.L1
open Go.Sx Go.Sx.M

theorem mx0_of {x : Int} (h : 0 ≤ x) : mx0 x = x := by unfold mx0; rw [if_neg (by omega)]

def ebSt (l : List En) (a b : BitVec 64) (p : Nat) : St :=
  ⟨[.vsl 0 0 (l.map enE).length, .any, .any, .ptr 1 0 0 true, .any, .any, .int .i64 (mx0 (fbG l a b p)), .bool (decide (fbG l a b p ≥ 0)), .any, .any, .any, .vsl 0 0 (l.map enE).length, .int .i64 (l.map enE).length, .int .i64 p, .any, .any, .any, .any, .any, .any, .any, .any, .any, .any, .any, .any, .any, .any, .any, .any, .any, .any, .any, .any, .any, .any, .any, .any, .any, .any, .any], [some ⟨false, 48, 6, true, l.map enE⟩, some ⟨true, 24, 2, true, [.agg [.w64 a, .w64 b]]⟩]⟩
def ebM0 : Modes := ⟨[1, 0, 0, 1, 0, 0, 2, 2, 0, 0, 0, 1, 1, 2, 0, 0, 0, 0, 0, 0, 0, 0, 0, 0, 0, 0, 0, 0, 0, 0, 0, 0, 0, 0, 0, 0, 0, 0, 0, 0, 0], [], [], [], []⟩
def ebM : Modes := ⟨[1, 0, 0, 1, 0, 0, 1, 1, 0, 0, 0, 1, 1, 1, 0, 0, 0, 0, 0, 0, 0, 0, 0, 0, 0, 0, 0, 0, 0, 0, 0, 0, 0, 0, 0, 0, 0, 0, 0, 0, 0], [], [], [], []⟩
def ebN : Modes := ⟨[1, 0, 0, 1, 0, 0, 2, 2, 0, 0, 0, 1, 1, 1, 0, 0, 0, 0, 0, 0, 0, 0, 0, 0, 0, 0, 0, 0, 0, 0, 0, 0, 0, 0, 0, 0, 0, 0, 0, 0, 0], [], [], [], []⟩
def ebM' : Modes := ⟨[0, 0, 0, 0, 0, 0, 1, 1, 0, 0, 0, 0, 0, 0, 0, 0, 0, 0, 0, 0, 0, 0, 0, 0, 0, 0, 0, 0, 0, 0, 0, 0, 0, 0, 0, 0, 0, 0, 0, 0, 0], [], [], [], []⟩
def ebH (l : List En) (a b : BitVec 64) : List Hint := [.linv _ 0 (ebSt l a b) (fun p => p ≤ l.length) (fun p => l.length + 1 - p) ebM0 ebN ebM' (fun _ => []) fun p =>
  [.fork [.dy, .cell (enE (at' l p)), .fork [.fork [.nw] [.nw]] [.dy, .cell (.int .i64 (at' l (mx0 (fbG l a b p)).toNat).len), .fork [.fork [.nw] [.nw]] [.nw]]] []]]

noncomputable def eofCs : List (FuncId × Sx.Spec) := [(26, genSpec [none, none] makeF),
  (25, genSpec [none] wofF)]

theorem eof_run (a b : BitVec 64) (k j : Int) (r : AV) : run eofCs Try.prog 33 [.agg [.w64 a, .w64 b, .int .i64 k], .int .i64 j] [] [] (yields (.v r)) =
    (AV.agg [AV.w64 (a &&& mkW k &&& mkW (clamp k)), AV.w64 (b &&& mkW (k - (64 : Int)) &&& mkW (clamp k - (64 : Int))), AV.w64 (mkW (clamp k)), AV.w64 (mkW (clamp k - (64 : Int))), AV.int IntKind.i64 (clamp k), AV.int IntKind.i64 j] = r) := by kernel_rfl

theorem eofCs_ok : ∀ e ∈ eofCs, SpecOK Try.prog e.1 e.2 := by
  intro e he
  simp only [eofCs, List.mem_cons, List.not_mem_nil, or_false] at he
  rcases he with rfl | rfl
  · exact pmake_ok
  · exact wof_ok

theorem eof_ok : SpecOK Try.prog 33 (genSpec [none, none] eofF) := by
  refine genSpec_ok (run_ok (l := eofCs) eofCs_ok mixed noNG) fun l R hF => ?_
  unfold eofF at hF
  split at hF
  · rename_i a b k j
    refine ⟨_, hF, rfl, [], ?_⟩
    show run eofCs Try.prog _ [.agg [.w64 a, .w64 b, .int .i64 k], .int .i64 j] [] _ _
    rw [eof_run]
    rw [(mkW_clamp k).1, (mkW_clamp k).2, BitVec.and_assoc, BitVec.and_self, BitVec.and_assoc, BitVec.and_self]
  · exact hF.elim


noncomputable def ebestCs : List (FuncId × Sx.Spec) := [(24, genSpec [none, none] wmatchF)]

theorem ebest_run (l : List En) (a b : BitVec 64) (r : AV) : run ebestCs Try.prog 34 [.vsl 0 0 (l.map enE).length, .agg [.w64 a, .w64 b]] [some ⟨false, (pEn.getD (0, 0)).1, (pEn.getD (0, 0)).2, true, (l.map enE)⟩] (ebH l a b) (yields (.v r)) =
    ((St.mk [AV.vsl (0 : Nat) (0 : Nat) (List.length (List.map enE l)), AV.any, AV.any, AV.ptr ((0 : Nat) + (1 : Nat)) (0 : Nat) (0 : Nat) true, AV.any, AV.any, AV.int IntKind.i64 (0 : Int), AV.bool false, AV.any, AV.any, AV.any, AV.vsl (0 : Nat) (0 : Nat) (List.length (List.map enE l)), AV.int IntKind.i64 (↑(List.length (List.map enE l)) : Int), AV.int IntKind.i64 (0 : Int), AV.any, AV.any, AV.any, AV.any, AV.any, AV.any, AV.any, AV.any, AV.any, AV.any, AV.any, AV.any, AV.any, AV.any, AV.any, AV.any, AV.any, AV.any, AV.any, AV.any, AV.any, AV.any, AV.any, AV.any, AV.any, AV.any, AV.any] [some (Blk.mk false (48 : TypeId) (6 : Nat) true (List.map enE l)), some (Blk.mk true (24 : Nat) (2 : Nat) true [AV.agg [AV.w64 a, AV.w64 b]])] = ebSt l a b (0 : Nat) ∧ Nat.le (0 : Nat) (List.length l)) ∧ ∀ (p : Nat), Nat.le p (List.length l) → (Decidable.decide ((↑p : Int) < (↑(List.length (List.map enE l)) : Int)) = true → ((0 : Int) ≤ (↑p : Int) ∧ (↑p : Int) < (↑(List.length (List.map enE l)) : Int)) ∧ Blk.read Proofs.Try.prog (Blk.mk false (48 : TypeId) (6 : Nat) true (List.map enE l)) (48 : Nat) ((0 : Nat) + Int.toNat (↑p : Int)) (0 : Nat) = some (AV.agg [AV.w64 (at' l p).1, AV.w64 (at' l p).2, AV.w64 (at' l p).3, AV.w64 (at' l p).4, AV.int IntKind.i64 (at' l p).5, AV.int IntKind.i64 (at' l p).6]) ∧ ((!Decidable.decide (fbG l a b p ≥ (0 : Int))) = true → (wmB (at' l p).1 (at' l p).2 (at' l p).3 (at' l p).4 a b = true → inRange IntKind.i64 ((↑p : Int) + (1 : Int)) ∧ ∃ (p' : Nat), St.mk [AV.vsl (0 : Nat) (0 : Nat) (List.length (List.map enE l)), AV.any, AV.any, AV.ptr ((0 : Nat) + (1 : Nat)) (0 : Nat) (0 : Nat) true, AV.any, AV.any, AV.int IntKind.i64 (↑p : Int), AV.bool true, AV.any, AV.any, AV.any, AV.vsl (0 : Nat) (0 : Nat) (List.length (List.map enE l)), AV.int IntKind.i64 (↑(List.length (List.map enE l)) : Int), AV.int IntKind.i64 ((↑p : Int) + (1 : Int)), AV.any, AV.any, AV.any, AV.any, AV.any, AV.any, AV.any, AV.any, AV.any, AV.any, AV.any, AV.any, AV.any, AV.any, AV.any, AV.any, AV.any, AV.any, AV.any, AV.any, AV.any, AV.any, AV.any, AV.any, AV.any, AV.any, AV.any] [some (Blk.mk false (48 : TypeId) (6 : Nat) true (List.map enE l)), some (Blk.mk true (24 : TypeId) (2 : Nat) true [AV.agg [AV.w64 a, AV.w64 b]])] = ebSt l a b p' ∧ Nat.le p' (List.length l) ∧ List.length l + (1 : Nat) - p' < List.length l + (1 : Nat) - p) ∧ (wmB (at' l p).1 (at' l p).2 (at' l p).3 (at' l p).4 a b = false → inRange IntKind.i64 ((↑p : Int) + (1 : Int)) ∧ ∃ (p' : Nat), St.mk [AV.vsl (0 : Nat) (0 : Nat) (List.length (List.map enE l)), AV.any, AV.any, AV.ptr ((0 : Nat) + (1 : Nat)) (0 : Nat) (0 : Nat) true, AV.any, AV.any, AV.int IntKind.i64 (mx0 (fbG l a b p)), AV.bool (Decidable.decide (fbG l a b p ≥ (0 : Int))), AV.any, AV.any, AV.any, AV.vsl (0 : Nat) (0 : Nat) (List.length (List.map enE l)), AV.int IntKind.i64 (↑(List.length (List.map enE l)) : Int), AV.int IntKind.i64 ((↑p : Int) + (1 : Int)), AV.any, AV.any, AV.any, AV.any, AV.any, AV.any, AV.any, AV.any, AV.any, AV.any, AV.any, AV.any, AV.any, AV.any, AV.any, AV.any, AV.any, AV.any, AV.any, AV.any, AV.any, AV.any, AV.any, AV.any, AV.any, AV.any, AV.any] [some (Blk.mk false (48 : TypeId) (6 : Nat) true (List.map enE l)), some (Blk.mk true (24 : TypeId) (2 : Nat) true [AV.agg [AV.w64 a, AV.w64 b]])] = ebSt l a b p' ∧ Nat.le p' (List.length l) ∧ List.length l + (1 : Nat) - p' < List.length l + (1 : Nat) - p)) ∧ ((!Decidable.decide (fbG l a b p ≥ (0 : Int))) = false → ((0 : Int) ≤ mx0 (fbG l a b p) ∧ mx0 (fbG l a b p) < (↑(List.length (List.map enE l)) : Int)) ∧ Blk.read Proofs.Try.prog (Blk.mk false (48 : TypeId) (6 : Nat) true (List.map enE l)) (3 : Nat) ((0 : Nat) + Int.toNat (mx0 (fbG l a b p))) ((0 : Nat) + (4 : Nat)) = some (AV.int IntKind.i64 (at' l (Int.toNat (mx0 (fbG l a b p)))).5) ∧ (Decidable.decide ((at' l p).5 > (at' l (Int.toNat (mx0 (fbG l a b p)))).5) = true → (wmB (at' l p).1 (at' l p).2 (at' l p).3 (at' l p).4 a b = true → inRange IntKind.i64 ((↑p : Int) + (1 : Int)) ∧ ∃ (p' : Nat), St.mk [AV.vsl (0 : Nat) (0 : Nat) (List.length (List.map enE l)), AV.any, AV.any, AV.ptr ((0 : Nat) + (1 : Nat)) (0 : Nat) (0 : Nat) true, AV.any, AV.any, AV.int IntKind.i64 (↑p : Int), AV.bool true, AV.any, AV.any, AV.any, AV.vsl (0 : Nat) (0 : Nat) (List.length (List.map enE l)), AV.int IntKind.i64 (↑(List.length (List.map enE l)) : Int), AV.int IntKind.i64 ((↑p : Int) + (1 : Int)), AV.any, AV.any, AV.any, AV.any, AV.any, AV.any, AV.any, AV.any, AV.any, AV.any, AV.any, AV.any, AV.any, AV.any, AV.any, AV.any, AV.any, AV.any, AV.any, AV.any, AV.any, AV.any, AV.any, AV.any, AV.any, AV.any, AV.any] [some (Blk.mk false (48 : TypeId) (6 : Nat) true (List.map enE l)), some (Blk.mk true (24 : TypeId) (2 : Nat) true [AV.agg [AV.w64 a, AV.w64 b]])] = ebSt l a b p' ∧ Nat.le p' (List.length l) ∧ List.length l + (1 : Nat) - p' < List.length l + (1 : Nat) - p) ∧ (wmB (at' l p).1 (at' l p).2 (at' l p).3 (at' l p).4 a b = false → inRange IntKind.i64 ((↑p : Int) + (1 : Int)) ∧ ∃ (p' : Nat), St.mk [AV.vsl (0 : Nat) (0 : Nat) (List.length (List.map enE l)), AV.any, AV.any, AV.ptr ((0 : Nat) + (1 : Nat)) (0 : Nat) (0 : Nat) true, AV.any, AV.any, AV.int IntKind.i64 (mx0 (fbG l a b p)), AV.bool (Decidable.decide (fbG l a b p ≥ (0 : Int))), AV.any, AV.any, AV.any, AV.vsl (0 : Nat) (0 : Nat) (List.length (List.map enE l)), AV.int IntKind.i64 (↑(List.length (List.map enE l)) : Int), AV.int IntKind.i64 ((↑p : Int) + (1 : Int)), AV.any, AV.any, AV.any, AV.any, AV.any, AV.any, AV.any, AV.any, AV.any, AV.any, AV.any, AV.any, AV.any, AV.any, AV.any, AV.any, AV.any, AV.any, AV.any, AV.any, AV.any, AV.any, AV.any, AV.any, AV.any, AV.any, AV.any] [some (Blk.mk false (48 : TypeId) (6 : Nat) true (List.map enE l)), some (Blk.mk true (24 : TypeId) (2 : Nat) true [AV.agg [AV.w64 a, AV.w64 b]])] = ebSt l a b p' ∧ Nat.le p' (List.length l) ∧ List.length l + (1 : Nat) - p' < List.length l + (1 : Nat) - p)) ∧ (Decidable.decide ((at' l p).5 > (at' l (Int.toNat (mx0 (fbG l a b p)))).5) = false → inRange IntKind.i64 ((↑p : Int) + (1 : Int)) ∧ ∃ (p' : Nat), St.mk [AV.vsl (0 : Nat) (0 : Nat) (List.length (List.map enE l)), AV.any, AV.any, AV.ptr ((0 : Nat) + (1 : Nat)) (0 : Nat) (0 : Nat) true, AV.any, AV.any, AV.int IntKind.i64 (mx0 (fbG l a b p)), AV.bool (Decidable.decide (fbG l a b p ≥ (0 : Int))), AV.any, AV.any, AV.any, AV.vsl (0 : Nat) (0 : Nat) (List.length (List.map enE l)), AV.int IntKind.i64 (↑(List.length (List.map enE l)) : Int), AV.int IntKind.i64 ((↑p : Int) + (1 : Int)), AV.any, AV.any, AV.any, AV.any, AV.any, AV.any, AV.any, AV.any, AV.any, AV.any, AV.any, AV.any, AV.any, AV.any, AV.any, AV.any, AV.any, AV.any, AV.any, AV.any, AV.any, AV.any, AV.any, AV.any, AV.any, AV.any, AV.any] [some (Blk.mk false (48 : TypeId) (6 : Nat) true (List.map enE l)), some (Blk.mk true (24 : TypeId) (2 : Nat) true [AV.agg [AV.w64 a, AV.w64 b]])] = ebSt l a b p' ∧ Nat.le p' (List.length l) ∧ List.length l + (1 : Nat) - p' < List.length l + (1 : Nat) - p))) ∧ (Decidable.decide ((↑p : Int) < (↑(List.length (List.map enE l)) : Int)) = false → AV.tuple [AV.int IntKind.i64 (mx0 (fbG l a b p)), AV.bool (Decidable.decide (fbG l a b p ≥ (0 : Int)))] = r)) := by kernel_rfl

theorem ebestCs_ok : ∀ e ∈ ebestCs, SpecOK Try.prog e.1 e.2 := by
  intro e he
  simp only [ebestCs, List.mem_cons, List.not_mem_nil, or_false] at he
  rcases he with rfl
  · exact wmatch_ok

theorem ebest_ok : SpecOK Try.prog 34 (genSpec [pEn, none] ebestF) := by
  refine genSpec_ok (run_ok (l := ebestCs) ebestCs_ok mixed noNG) fun l R hF => ?_
  unfold ebestF at hF
  split at hF
  · rename_i r_l a b
    obtain ⟨hr_l, hl, hF⟩ := hF
    generalize deE r_l = l at hr_l hl hF
    subst hr_l
    refine ⟨_, hF, rfl, (ebH l a b), ?_⟩
    show run ebestCs Try.prog _ [.vsl 0 0 (l.map enE).length, .agg [.w64 a, .w64 b]] [some ⟨false, (pEn.getD (0, 0)).1, (pEn.getD (0, 0)).2, true, (l.map enE)⟩] _ _
    rw [ebest_run]
    refine ⟨⟨rfl, Nat.zero_le _⟩, ?_⟩
    intro p (hpl : p ≤ l.length)
    refine ⟨fun hlt => ?_, fun hge => ?_⟩
    · have hp : p < l.length := by simp only [decide_eq_true_eq, List.length_map] at hlt; omega
      have B : 0 ≤ (p : Int) ∧ (p : Int) < ((l.map enE).length : Int) := by rw [List.length_map]; omega
      have i1 : inRange .i64 ((p : Int) + 1) := inR (by omega) (by omega)
      have nx : ∀ (x : Int) (c : Bool), mx0 (fbG l a b (p + 1)) = x → decide (fbG l a b (p + 1) ≥ 0) = c → ∃ p', (⟨[.vsl 0 0 (l.map enE).length, .any, .any, .ptr 1 0 0 true, .any, .any, .int .i64 x, .bool c, .any, .any, .any, .vsl 0 0 (l.map enE).length, .int .i64 (l.map enE).length, .int .i64 ((p : Int) + 1), .any, .any, .any, .any, .any, .any, .any, .any, .any, .any, .any, .any, .any, .any, .any, .any, .any, .any, .any, .any, .any, .any, .any, .any, .any, .any, .any], [some ⟨false, 48, 6, true, l.map enE⟩, some ⟨true, 24, 2, true, [.agg [.w64 a, .w64 b]]⟩]⟩ : St) = ebSt l a b p' ∧ p' ≤ l.length ∧ l.length + 1 - p' < l.length + 1 - p := fun x c e1 e2 => ⟨p + 1, by subst e1; subst e2; rfl, by omega, by omega⟩
      have hs := fbG_spec l a b p
      have eg : fbG l a b (p + 1) = if (decide (fbG l a b p < 0) || decide ((at' l p).len > (at' l (fbG l a b p).toNat).len)) && mtE (at' l p) a b then (p : Int) else fbG l a b p := rfl
      have yes : (decide (fbG l a b p < 0) || decide ((at' l p).len > (at' l (fbG l a b p).toNat).len)) = true → mtE (at' l p) a b = true → mx0 (fbG l a b (p + 1)) = p ∧ decide (fbG l a b (p + 1) ≥ 0) = true := fun h1 h2 => by
        rw [eg, h1, h2, if_pos (show (true && true) = true from rfl)]
        exact ⟨mx0_of (by omega), by simp⟩
      have no : (decide (fbG l a b p < 0) || decide ((at' l p).len > (at' l (fbG l a b p).toNat).len)) = false ∨ mtE (at' l p) a b = false → fbG l a b (p + 1) = fbG l a b p := fun h => by
        rw [eg]
        rcases h with h | h <;> rw [h] <;> simp
      refine ⟨B, read_rows B.1 B.2 (en_whole _), fun hn => ⟨fun hm => ⟨i1, ?_⟩, fun hm => ⟨i1, ?_⟩⟩, fun hf => ?_⟩
      · have hn : fbG l a b p < 0 := by simp at hn; omega
        have := yes (by simp [hn]) hm
        exact nx _ _ this.1 this.2
      · have := no (.inr hm)
        exact nx _ _ (by rw [this]) (by rw [this])
      · have hf : fbG l a b p ≥ 0 := by simpa using hf
        have em : mx0 (fbG l a b p) = fbG l a b p := mx0_of hf
        have Bf : 0 ≤ mx0 (fbG l a b p) ∧ mx0 (fbG l a b p) < ((l.map enE).length : Int) := by
          rw [em, List.length_map]
          rcases hs with ⟨h, _⟩ | ⟨i, h, h3, _⟩ <;> omega
        refine ⟨Bf, read_rows Bf.1 Bf.2 (ref_len _), fun hg => ⟨fun hm => ⟨i1, ?_⟩, fun hm => ⟨i1, ?_⟩⟩, fun hg => ⟨i1, ?_⟩⟩
        · rw [em] at hg
          have := yes (by rw [hg, Bool.or_true]) hm
          exact nx _ _ this.1 this.2
        · have := no (.inr hm)
          exact nx _ _ (by rw [this]) (by rw [this])
        · rw [em] at hg
          have := no (.inl (by rw [hg, Bool.or_false]; simp; omega))
          exact nx _ _ (by rw [this]) (by rw [this])
    · have hp : p = l.length := by simp only [decide_eq_false_iff_not, List.length_map] at hge; omega
      subst hp
      rw [fbG_all]
  · exact hF.elim


noncomputable def etellCs : List (FuncId × Sx.Spec) := [(34, genSpec [pEn, none] ebestF)]

theorem etell_run (l : List En) (a b : BitVec 64) (r : AV) : run etellCs Try.prog 22 [.vsl 0 0 (l.map enE).length, .agg [.w64 a, .w64 b]] [some ⟨false, (pEn.getD (0, 0)).1, (pEn.getD (0, 0)).2, true, (l.map enE)⟩] [.fork [] [.dy, .cell (.int .i64 (at' l (mx0 (bsI l a b)).toNat).act)]] (yields (.v r)) =
    ((0 : Nat) + List.length (List.map enE l) ≤ List.length (List.map enE l) ∧ List.take (List.length (List.map enE l)) (List.drop (0 : Nat) (List.map enE l)) = List.map enE (deE (List.take (List.length (List.map enE l)) (List.drop (0 : Nat) (List.map enE l)))) ∧ List.length (deE (List.take (List.length (List.map enE l)) (List.drop (0 : Nat) (List.map enE l)))) ≤ (9223372036854775807 : Nat) ∧ ((!Decidable.decide (bsI (deE (List.take (List.length (List.map enE l)) (List.drop (0 : Nat) (List.map enE l)))) a b ≥ (0 : Int))) = true → AV.int IntKind.i64 (0 : Int) = r) ∧ ((!Decidable.decide (bsI (deE (List.take (List.length (List.map enE l)) (List.drop (0 : Nat) (List.map enE l)))) a b ≥ (0 : Int))) = false → ((0 : Int) ≤ mx0 (bsI (deE (List.take (List.length (List.map enE l)) (List.drop (0 : Nat) (List.map enE l)))) a b) ∧ mx0 (bsI (deE (List.take (List.length (List.map enE l)) (List.drop (0 : Nat) (List.map enE l)))) a b) < (↑(List.length (List.map enE l)) : Int)) ∧ Blk.read Proofs.Try.prog (Blk.mk false (48 : TypeId) (6 : Nat) true (List.map enE l)) (3 : Nat) ((0 : Nat) + Int.toNat (mx0 (bsI (deE (List.take (List.length (List.map enE l)) (List.drop (0 : Nat) (List.map enE l)))) a b))) ((0 : Nat) + (5 : Nat)) = some (AV.int IntKind.i64 (at' l (Int.toNat (mx0 (bsI l a b)))).6) ∧ AV.int IntKind.i64 (at' l (Int.toNat (mx0 (bsI l a b)))).6 = r)) := by kernel_rfl

theorem etellCs_ok : ∀ e ∈ etellCs, SpecOK Try.prog e.1 e.2 := by
  intro e he
  simp only [etellCs, List.mem_cons, List.not_mem_nil, or_false] at he
  rcases he with rfl
  · exact ebest_ok

theorem etell_ok : SpecOK Try.prog 22 (genSpec [pEn, none] rtellF) := by
  refine genSpec_ok (run_ok (l := etellCs) etellCs_ok mixed noNG) fun l R hF => ?_
  unfold rtellF at hF
  split at hF
  · rename_i r_l a b
    obtain ⟨hr_l, hl, hF⟩ := hF
    generalize deE r_l = l at hr_l hl hF
    subst hr_l
    refine ⟨_, hF, rfl, [.fork [] [.dy, .cell (.int .i64 (at' l (mx0 (bsI l a b)).toNat).act)]], ?_⟩
    show run etellCs Try.prog _ [.vsl 0 0 (l.map enE).length, .agg [.w64 a, .w64 b]] [some ⟨false, (pEn.getD (0, 0)).1, (pEn.getD (0, 0)).2, true, (l.map enE)⟩] _ _
    rw [etell_run]
    simp only [whole_row, deE_map]
    refine ⟨by omega, by trivial, hl, fun h => ?_, fun h => ?_⟩
    · have h : bsI l a b < 0 := by simp at h; omega
      unfold tlI
      rw [if_pos h]
    · have h : bsI l a b ≥ 0 := by simpa using h
      have em : mx0 (bsI l a b) = bsI l a b := mx0_of h
      have B : 0 ≤ mx0 (bsI l a b) ∧ mx0 (bsI l a b) < ((l.map enE).length : Int) := by
        rw [em]
        rcases bsI_spec l a b with ⟨h1, _⟩ | ⟨i, h1, _, h2, _⟩
        · omega
        · rw [h1, List.length_map]; omega
      refine ⟨B, read_rows B.1 B.2 (ref_act _), ?_⟩
      unfold tlI
      rw [if_neg (by omega), em]
  · exact hF.elim


end Go.Proofs.Ythfgocpejlhanaa.L1
end

