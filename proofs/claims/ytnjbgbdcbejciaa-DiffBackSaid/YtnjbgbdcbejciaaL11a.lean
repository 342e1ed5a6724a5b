/-
  Texts in one: L11T L11A L11B L11D.
-/
import Derived.Test.YtnjbgbdcbejciaaL5a
import Derived.Test.YtnjbgbdcbejciaaMc
import Derived.Test.YtnjbgbdcbejciaaL10a

section
/-
  Layer 11: steps as values of the calculus.
-/
namespace Go.Proofs.Ytnjbgbdcbejciaa.L1
open Go.Sx Go.Sx.M

/-- A step's cells. -/
def spE (s : Sp) : AV := .agg [.int .i64 s.k, .w64 s.e.v, .w64 s.e.w, .w64 s.e.m, .w64 s.e.n, .int .i64 s.e.len, .int .i64 s.e.act]

def deSp1 (x : AV) : Sp := ⟨cI (x.cells.getD 0 .any), ⟨cW (x.cells.getD 1 .any), cW (x.cells.getD 2 .any), cW (x.cells.getD 3 .any), cW (x.cells.getD 4 .any), cI (x.cells.getD 5 .any), cI (x.cells.getD 6 .any)⟩⟩
def deSp (l : List AV) : List Sp := l.map deSp1
theorem deSp_map (l : List Sp) : deSp (l.map spE) = l := by
  unfold deSp
  rw [List.map_map]
  exact List.map_id l

/-- Rows of the program's steps, of the document's. -/
def pSp : Par := some (59, 7)
def pRefSp : Par := some (56, 7)

theorem sp_whole (s : Sp) : partOf Try.prog 59 (spE s).cells 0 = some (spE s) := by kernel_rfl
theorem rsp_whole (s : Sp) : partOf Try.prog 56 (spE s).cells 0 = some (spE s) := by kernel_rfl
theorem rsp_kind (s : Sp) : partOf Try.prog 3 (spE s).cells 0 = some (.int .i64 s.k) := by kernel_rfl

end Go.Proofs.Ytnjbgbdcbejciaa.L1
end

section
/-
  Layer 11: the document's Alike, find, Once, Do.
-/
namespace Go.Proofs.Ytnjbgbdcbejciaa.L1
open Go.Sx Go.Sx.M

def fnSt (l : List En) (y : En) (p : Nat) : St := ⟨[.vsl 0 0 (l.map enE).length, .any, .any, .ptr 1 0 0 true, .any, .int .i64 p, .any, .any, .any, .any, .any, .any, .any, .any, .any, .any, .any, .any, .any], [some ⟨false, 54, 6, true, l.map enE⟩, some ⟨true, 54, 6, true, [enE y]⟩]⟩
def fnM0 : Modes := ⟨[1, 0, 0, 1, 0, 2, 0, 0, 0, 0, 0, 0, 0, 0, 0, 0, 0, 0, 0], [], [], [], []⟩
def fnM : Modes := ⟨[1, 0, 0, 1, 0, 1, 0, 0, 0, 0, 0, 0, 0, 0, 0, 0, 0, 0, 0], [], [], [], []⟩
def fnM' : Modes := ⟨[0, 0, 0, 0, 1, 0, 0, 0, 0, 0, 0, 0, 0, 0, 0, 0, 0, 0, 0], [], [], [], []⟩
def fnI (l : List En) (y : En) (p : Nat) : Prop := p ≤ l.length ∧ ∀ j, j < p → alE (at' l j) y = false
def fnH (l : List En) (y : En) : List Hint := [.linv _ 0 (fnSt l y) (fnI l y) (fun p => l.length + 1 - p) fnM0 fnM fnM' (fun _ => []) fun p => [.fork [.dy, .cell (enE (at' l p)), .fork [] [.nw]] []]]

def ocSt (F : List En → List AV) (l : List En) (p : Nat) : St :=
  ⟨[.vsl 0 0 (l.map enE).length, .any, .any, .vsl 1 0 (onE (l.take p)).length, .int .i64 p, .any, .any, .any, .any, .any, .any, .any, .any, .any, .any, .any, .any, .any, .any, .any, .any, .any, .any, .any, .any, .any, .any, .any], [some ⟨false, 54, 6, true, l.map enE⟩, some ⟨true, 54, 6, true, F (onE (l.take p))⟩]⟩
def ocM0 : Modes := ⟨[1, 0, 0, 1, 2, 0, 0, 0, 0, 0, 0, 0, 0, 0, 0, 0, 0, 0, 0, 0, 0, 0, 0, 0, 0, 0, 0, 0], [], [], [], [(3, 54, 6)]⟩
def ocM : Modes := ⟨[1, 0, 0, 1, 1, 0, 0, 0, 0, 0, 0, 0, 0, 0, 0, 0, 0, 0, 0, 0, 0, 0, 0, 0, 0, 0, 0, 0], [], [], [], []⟩
def ocH (F : List En → List AV) (l : List En) : List Hint := [.linv _ 0 (ocSt F l) (fun p => p ≤ l.length) (fun p => l.length + 1 - p) ocM0 ocM ocM (fun _ => []) fun p =>
  [.fork [.ix p, .dy, .cell (enE (at' l p)), .fork [.dy, .cell (enE (at' l p)), .rows (F (onE (l.take (p + 1)))), .nw] [.nw]] []]]

def ddSt (F : List En → List AV) (l : List En) (s : Sp) (p : Nat) : St :=
  ⟨[.vsl 0 0 (l.map enE).length, .any, .any, .ptr 1 0 0 true, .any, .vsl 2 0 (dpE (l.take p) s).length, .int .i64 p, .any, .any, .any, .any, .any, .any, .any, .any, .any, .any, .any, .any, .any, .any, .any, .any, .any, .any, .any, .any, .any, .any, .any, .any, .any, .any, .any, .any, .any, .any, .any, .any, .any, .any, .any, .any, .any, .any, .any, .any, .any, .any, .any, .any, .any], [some ⟨false, 54, 6, true, l.map enE⟩, some ⟨true, 56, 7, true, [spE s]⟩, some ⟨true, 54, 6, true, F (dpE (l.take p) s)⟩]⟩
def ddM0 : Modes := ⟨[1, 0, 0, 1, 0, 1, 2, 0, 0, 0, 0, 0, 0, 0, 0, 0, 0, 0, 0, 0, 0, 0, 0, 0, 0, 0, 0, 0, 0, 0, 0, 0, 0, 0, 0, 0, 0, 0, 0, 0, 0, 0, 0, 0, 0, 0, 0, 0, 0, 0, 0, 0], [], [], [], [(5, 54, 6)]⟩
def ddM : Modes := ⟨[1, 0, 0, 1, 0, 1, 1, 0, 0, 0, 0, 0, 0, 0, 0, 0, 0, 0, 0, 0, 0, 0, 0, 0, 0, 0, 0, 0, 0, 0, 0, 0, 0, 0, 0, 0, 0, 0, 0, 0, 0, 0, 0, 0, 0, 0, 0, 0, 0, 0, 0, 0], [], [], [], []⟩
def ddM' : Modes := ⟨[0, 0, 0, 1, 0, 1, 0, 0, 0, 0, 0, 0, 0, 0, 0, 0, 0, 0, 0, 0, 0, 0, 0, 0, 0, 0, 0, 0, 0, 0, 0, 0, 0, 0, 0, 0, 0, 0, 0, 0, 0, 0, 0, 0, 0, 0, 0, 0, 0, 0, 0, 0], [], [], [], []⟩
def ddA (F : List En → List AV) (l : List En) (s : Sp) (p : Nat) : List Hint := [.rows (F (dpE (l.take (p + 1)) s)), .nw]
def ddB (F : List En → List AV) (l : List En) (s : Sp) (p : Nat) : List Hint := [.fork (ddA F l s p) [.fork (ddA F l s p) [.nw]]]
def ddH (F : List En → List AV) (l : List En) (s : Sp) : List Hint := [.linv _ 0 (ddSt F l s) (fun p => p ≤ l.length) (fun p => l.length + 1 - p) ddM0 ddM ddM' (fun _ => [.fork [.rows (F (doE l s))] []]) fun p =>
  [.fork [.dy, .cell (enE (at' l p)), .fork [.fork (ddB F l s p) (ddB F l s p)] (ddB F l s p)] []]]

def ralike11F : List Arg → (Res → Prop) → Prop
  | [.v (.agg [.w64 v, .w64 w, .w64 m, .w64 n, .int .i64 k, .int .i64 j]), .v (.agg [.w64 c, .w64 d, .w64 p, .w64 q, .int .i64 s, .int .i64 t])], R => R (.v (.bool (alE ⟨v, w, m, n, k, j⟩ ⟨c, d, p, q, s, t⟩)))
  | _, _ => False

theorem ralike11_run (v w m n : BitVec 64) (k j : Int) (c d p q : BitVec 64) (s t : Int) (r : AV) : run [] Try.prog 65 [.agg [.w64 v, .w64 w, .w64 m, .w64 n, .int .i64 k, .int .i64 j], .agg [.w64 c, .w64 d, .w64 p, .w64 q, .int .i64 s, .int .i64 t]] [] [.fork [] []] (yields (.v r)) =
    (((v == c && w == d && (m == p && n == q)) = true → AV.bool (k == s) = r) ∧ ((v == c && w == d && (m == p && n == q)) = false → AV.bool false = r)) := by kernel_rfl

theorem ralike11_ok : SpecOK Try.prog 65 (genSpec [none, none] ralike11F) := by
  refine genSpec_ok none_ok fun l R hF => ?_
  unfold ralike11F at hF
  split at hF
  · rename_i v w m n k j c d p q s t
    refine ⟨_, hF, rfl, [.fork [] []], ?_⟩
    show run [] Try.prog _ [.agg [.w64 v, .w64 w, .w64 m, .w64 n, .int .i64 k, .int .i64 j], .agg [.w64 c, .w64 d, .w64 p, .w64 q, .int .i64 s, .int .i64 t]] [] _ _
    rw [ralike11_run]
    refine ⟨fun h => ?_, fun h => ?_⟩
    · show AV.bool (k == s) = AV.bool ((v == c && w == d && (m == p && n == q)) && k == s)
      rw [h, Bool.true_and]
    · show AV.bool false = AV.bool ((v == c && w == d && (m == p && n == q)) && k == s)
      rw [h, Bool.false_and]
  · exact hF.elim


def rfind11F : List Arg → (Res → Prop) → Prop
  | [.row r_l, .v (.agg [.w64 v, .w64 w, .w64 m, .w64 n, .int .i64 k, .int .i64 j])], R => r_l = (deE r_l).map enE ∧ (deE r_l).length ≤ 1000000 ∧ R (.v (.int .i64 (fiE (deE r_l) ⟨v, w, m, n, k, j⟩)))
  | _, _ => False

noncomputable def rfind11Cs : List (FuncId × Sx.Spec) := [(65, genSpec [none, none] ralike11F)]

theorem rfind11_run (l : List En) (v w m n : BitVec 64) (k j : Int) (r : AV) : run rfind11Cs Try.prog 60 [.vsl 0 0 (l.map enE).length, .agg [.w64 v, .w64 w, .w64 m, .w64 n, .int .i64 k, .int .i64 j]] [some ⟨false, (pRefE.getD (0, 0)).1, (pRefE.getD (0, 0)).2, true, (l.map enE)⟩] (fnH l ⟨v, w, m, n, k, j⟩) (yields (.v r)) =
    ((St.mk [AV.vsl (0 : Nat) (0 : Nat) (List.length (List.map enE l)), AV.any, AV.any, AV.ptr ((0 : Nat) + (1 : Nat)) (0 : Nat) (0 : Nat) true, AV.any, AV.int IntKind.i64 (0 : Int), AV.any, AV.any, AV.any, AV.any, AV.any, AV.any, AV.any, AV.any, AV.any, AV.any, AV.any, AV.any, AV.any] [some (Blk.mk false (54 : TypeId) (6 : Nat) true (List.map enE l)), some (Blk.mk true (54 : Nat) (6 : Nat) true [AV.agg [AV.w64 v, AV.w64 w, AV.w64 m, AV.w64 n, AV.int IntKind.i64 k, AV.int IntKind.i64 j]])] = fnSt l (En.mk v w m n k j) (0 : Nat) ∧ fnI l (En.mk v w m n k j) (0 : Nat)) ∧ ∀ (p : Nat), fnI l (En.mk v w m n k j) p → (Decidable.decide ((↑p : Int) < (↑(List.length (List.map enE l)) : Int)) = true → ((0 : Int) ≤ (↑p : Int) ∧ (↑p : Int) < (↑(List.length (List.map enE l)) : Int)) ∧ Blk.read Proofs.Try.prog (Blk.mk false (54 : TypeId) (6 : Nat) true (List.map enE l)) (54 : Nat) ((0 : Nat) + Int.toNat (↑p : Int)) (0 : Nat) = some (AV.agg [AV.w64 (at' l p).1, AV.w64 (at' l p).2, AV.w64 (at' l p).3, AV.w64 (at' l p).4, AV.int IntKind.i64 (at' l p).5, AV.int IntKind.i64 (at' l p).6]) ∧ (alE (En.mk (at' l p).1 (at' l p).2 (at' l p).3 (at' l p).4 (at' l p).5 (at' l p).6) (En.mk v w m n k j) = true → AV.int IntKind.i64 (↑p : Int) = r) ∧ (alE (En.mk (at' l p).1 (at' l p).2 (at' l p).3 (at' l p).4 (at' l p).5 (at' l p).6) (En.mk v w m n k j) = false → inRange IntKind.i64 ((↑p : Int) + (1 : Int)) ∧ ∃ (p' : Nat), St.mk [AV.vsl (0 : Nat) (0 : Nat) (List.length (List.map enE l)), AV.any, AV.any, AV.ptr ((0 : Nat) + (1 : Nat)) (0 : Nat) (0 : Nat) true, AV.any, AV.int IntKind.i64 ((↑p : Int) + (1 : Int)), AV.any, AV.any, AV.any, AV.any, AV.any, AV.any, AV.any, AV.any, AV.any, AV.any, AV.any, AV.any, AV.any] [some (Blk.mk false (54 : TypeId) (6 : Nat) true (List.map enE l)), some (Blk.mk true (54 : TypeId) (6 : Nat) true [AV.agg [AV.w64 v, AV.w64 w, AV.w64 m, AV.w64 n, AV.int IntKind.i64 k, AV.int IntKind.i64 j]])] = fnSt l (En.mk v w m n k j) p' ∧ fnI l (En.mk v w m n k j) p' ∧ List.length l + (1 : Nat) - p' < List.length l + (1 : Nat) - p)) ∧ (Decidable.decide ((↑p : Int) < (↑(List.length (List.map enE l)) : Int)) = false → AV.int IntKind.i64 (-1 : Int) = r)) := by kernel_rfl

theorem rfind11Cs_ok : ∀ e ∈ rfind11Cs, SpecOK Try.prog e.1 e.2 := by
  intro e he
  simp only [rfind11Cs, List.mem_cons, List.not_mem_nil, or_false] at he
  rcases he with rfl
  · exact ralike11_ok

theorem rfind11_ok : SpecOK Try.prog 60 (genSpec [pRefE, none] rfind11F) := by
  refine genSpec_ok (run_ok (l := rfind11Cs) rfind11Cs_ok mixed noNG) fun l R hF => ?_
  unfold rfind11F at hF
  split at hF
  · rename_i r_l v w m n k j
    obtain ⟨hr_l, hl, hF⟩ := hF
    generalize deE r_l = l at hr_l hl hF
    subst hr_l
    refine ⟨_, hF, rfl, (fnH l ⟨v, w, m, n, k, j⟩), ?_⟩
    show run rfind11Cs Try.prog _ [.vsl 0 0 (l.map enE).length, .agg [.w64 v, .w64 w, .w64 m, .w64 n, .int .i64 k, .int .i64 j]] [some ⟨false, (pRefE.getD (0, 0)).1, (pRefE.getD (0, 0)).2, true, (l.map enE)⟩] _ _
    rw [rfind11_run]
    generalize hy : (⟨v, w, m, n, k, j⟩ : En) = y
    refine ⟨⟨by rw [← hy]; rfl, Nat.zero_le _, fun j hj => by omega⟩, ?_⟩
    rintro p ⟨h1, h2⟩
    refine ⟨fun hlt => ?_, fun hge => ?_⟩
    · have hp : p < l.length := by simp only [decide_eq_true_eq, List.length_map] at hlt; omega
      have B : 0 ≤ (p : Int) ∧ (p : Int) < ((l.map enE).length : Int) := by rw [List.length_map]; omega
      refine ⟨B, read_rows B.1 B.2 (ref_whole _), fun hm => ?_, fun hm => ⟨inR (by omega) (by omega), p + 1, by rw [← hy]; rfl, ⟨hp, up h2 hm⟩, by omega⟩⟩
      rw [fiE_at hp hm h2]
    · have hp : p = l.length := by simp only [decide_eq_false_iff_not, List.length_map] at hge; omega
      subst hp
      rw [fiE_no h2]
  · exact hF.elim


def ronce11F : List Arg → (Res → Prop) → Prop
  | [.row r_l], R => r_l = (deE r_l).map enE ∧ (deE r_l).length ≤ 1000000 ∧ R (.vrow 54 6 ((onE (deE r_l)).map enE))
  | _, _ => False

noncomputable def ronce11Cs : List (FuncId × Sx.Spec) := [(60, genSpec [pRefE, none] rfind11F)]

theorem ronce11_run (l : List En) (F : List En → List AV) (es : List AV) : run ronce11Cs Try.prog 30 [.vsl 0 0 (l.map enE).length] [some ⟨false, (pRefE.getD (0, 0)).1, (pRefE.getD (0, 0)).2, true, (l.map enE)⟩] (ocH F l) (yields (.vrow 54 6 es)) =
    ((St.mk [AV.vsl (0 : Nat) (0 : Nat) (List.length (List.map enE l)), AV.any, AV.any, AV.vsl (List.length [some (Blk.mk false (54 : TypeId) (6 : Nat) true (List.map enE l))]) (0 : Nat) (0 : Nat), AV.int IntKind.i64 (0 : Int), AV.any, AV.any, AV.any, AV.any, AV.any, AV.any, AV.any, AV.any, AV.any, AV.any, AV.any, AV.any, AV.any, AV.any, AV.any, AV.any, AV.any, AV.any, AV.any, AV.any, AV.any, AV.any, AV.any] ([some (Blk.mk false (54 : TypeId) (6 : Nat) true (List.map enE l))] ++ [some (Blk.mk true (54 : TypeId) (6 : Nat) true [])]) = ocSt F l (0 : Nat) ∧ Nat.le (0 : Nat) (List.length l)) ∧ ∀ (p : Nat), Nat.le p (List.length l) → (Decidable.decide ((↑p : Int) < (↑(List.length (List.map enE l)) : Int)) = true → (↑p : Int) = (↑p : Int) ∧ p < List.length (List.map enE l) + (1 : Nat) ∧ ((0 : Int) ≤ (↑p : Int) ∧ (↑p : Int) < (↑(List.length (List.map enE l)) : Int)) ∧ Blk.read Proofs.Try.prog (Blk.mk false (54 : TypeId) (6 : Nat) true (List.map enE l)) (54 : Nat) ((0 : Nat) + Int.toNat (↑p : Int)) (0 : Nat) = some (AV.agg [AV.w64 (at' l p).1, AV.w64 (at' l p).2, AV.w64 (at' l p).3, AV.w64 (at' l p).4, AV.int IntKind.i64 (at' l p).5, AV.int IntKind.i64 (at' l p).6]) ∧ (0 : Nat) + (0 : Nat) + (p - (0 : Nat)) ≤ List.length (List.map enE l) ∧ List.take (p - (0 : Nat)) (List.drop ((0 : Nat) + (0 : Nat)) (List.map enE l)) = List.map enE (deE (List.take (p - (0 : Nat)) (List.drop ((0 : Nat) + (0 : Nat)) (List.map enE l)))) ∧ List.length (deE (List.take (p - (0 : Nat)) (List.drop ((0 : Nat) + (0 : Nat)) (List.map enE l)))) ≤ (1000000 : Nat) ∧ (Decidable.decide (fiE (deE (List.take (p - (0 : Nat)) (List.drop ((0 : Nat) + (0 : Nat)) (List.map enE l)))) (En.mk (at' l p).1 (at' l p).2 (at' l p).3 (at' l p).4 (at' l p).5 (at' l p).6) < (0 : Int)) = true → ((0 : Int) ≤ (↑p : Int) ∧ (↑p : Int) < (↑(List.length (List.map enE l)) : Int)) ∧ Blk.read Proofs.Try.prog (Blk.mk false (54 : TypeId) (6 : Nat) true (List.map enE l)) (54 : Nat) ((0 : Nat) + Int.toNat (↑p : Int)) (0 : Nat) = some (AV.agg [AV.w64 (at' l p).1, AV.w64 (at' l p).2, AV.w64 (at' l p).3, AV.w64 (at' l p).4, AV.int IntKind.i64 (at' l p).5, AV.int IntKind.i64 (at' l p).6]) ∧ ((List.length (onE (List.take p l)) + (1 : Nat)) * (48 : Nat) ≤ (140737488355328 : Nat) ∧ List.length (onE (List.take p l)) + (1 : Nat) ≤ (9223372036854775807 : Nat) ∧ (0 : Nat) + (1 : Nat) ≤ List.length [AV.agg [AV.w64 (at' l p).1, AV.w64 (at' l p).2, AV.w64 (at' l p).3, AV.w64 (at' l p).4, AV.int IntKind.i64 (at' l p).5, AV.int IntKind.i64 (at' l p).6]] ∧ List.length (onE (List.take p l)) ≤ List.length (F (onE (List.take p l)))) ∧ List.take (List.length (onE (List.take p l))) (F (onE (List.take p l))) ++ [AV.agg [AV.w64 (at' l p).1, AV.w64 (at' l p).2, AV.w64 (at' l p).3, AV.w64 (at' l p).4, AV.int IntKind.i64 (at' l p).5, AV.int IntKind.i64 (at' l p).6]] = F (onE (List.take (p + (1 : Nat)) l)) ∧ inRange IntKind.i64 ((↑p : Int) + (1 : Int)) ∧ ∃ (p' : Nat), St.mk [AV.vsl (0 : Nat) (0 : Nat) (List.length (List.map enE l)), AV.any, AV.any, AV.vsl ((0 : Nat) + (1 : Nat)) (0 : Nat) (List.length (onE (List.take p l)) + (1 : Nat)), AV.int IntKind.i64 ((↑p : Int) + (1 : Int)), AV.any, AV.any, AV.any, AV.any, AV.any, AV.any, AV.any, AV.any, AV.any, AV.any, AV.any, AV.any, AV.any, AV.any, AV.any, AV.any, AV.any, AV.any, AV.any, AV.any, AV.any, AV.any, AV.any] [some (Blk.mk false (54 : TypeId) (6 : Nat) true (List.map enE l)), some (Blk.mk true (54 : Nat) (6 : Nat) true (F (onE (List.take (p + (1 : Nat)) l))))] = ocSt F l p' ∧ Nat.le p' (List.length l) ∧ List.length l + (1 : Nat) - p' < List.length l + (1 : Nat) - p) ∧ (Decidable.decide (fiE (deE (List.take (p - (0 : Nat)) (List.drop ((0 : Nat) + (0 : Nat)) (List.map enE l)))) (En.mk (at' l p).1 (at' l p).2 (at' l p).3 (at' l p).4 (at' l p).5 (at' l p).6) < (0 : Int)) = false → inRange IntKind.i64 ((↑p : Int) + (1 : Int)) ∧ ∃ (p' : Nat), St.mk [AV.vsl (0 : Nat) (0 : Nat) (List.length (List.map enE l)), AV.any, AV.any, AV.vsl ((0 : Nat) + (1 : Nat)) (0 : Nat) (List.length (onE (List.take p l))), AV.int IntKind.i64 ((↑p : Int) + (1 : Int)), AV.any, AV.any, AV.any, AV.any, AV.any, AV.any, AV.any, AV.any, AV.any, AV.any, AV.any, AV.any, AV.any, AV.any, AV.any, AV.any, AV.any, AV.any, AV.any, AV.any, AV.any, AV.any, AV.any] [some (Blk.mk false (54 : TypeId) (6 : Nat) true (List.map enE l)), some (Blk.mk true (54 : TypeId) (6 : Nat) true (F (onE (List.take p l))))] = ocSt F l p' ∧ Nat.le p' (List.length l) ∧ List.length l + (1 : Nat) - p' < List.length l + (1 : Nat) - p)) ∧ (Decidable.decide ((↑p : Int) < (↑(List.length (List.map enE l)) : Int)) = false → List.length (onE (List.take p l)) = List.length es ∧ some (Blk.mk true (54 : TypeId) (6 : Nat) true (F (onE (List.take p l)))) = some (Blk.mk true (54 : TypeId) (6 : Nat) true es))) := by kernel_rfl

theorem ronce11Cs_ok : ∀ e ∈ ronce11Cs, SpecOK Try.prog e.1 e.2 := by
  intro e he
  simp only [ronce11Cs, List.mem_cons, List.not_mem_nil, or_false] at he
  rcases he with rfl
  · exact rfind11_ok

theorem ronce11_ok : SpecOK Try.prog 30 (genSpec [pRefE] ronce11F) := by
  refine genSpec_ok (run_ok (l := ronce11Cs) ronce11Cs_ok mixed noNG) fun l R hF => ?_
  unfold ronce11F at hF
  split at hF
  · rename_i r_l
    obtain ⟨hr_l, hl, hF⟩ := hF
    generalize deE r_l = l at hr_l hl hF
    subst hr_l
    refine ⟨_, hF, trivial, (ocH (List.map enE) l), ?_⟩
    show run ronce11Cs Try.prog _ [.vsl 0 0 (l.map enE).length] [some ⟨false, (pRefE.getD (0, 0)).1, (pRefE.getD (0, 0)).2, true, (l.map enE)⟩] _ _
    rw [ronce11_run]
    refine ⟨⟨rfl, Nat.zero_le _⟩, ?_⟩
    intro p (hp0 : p ≤ l.length)
    have hlm : (l.map enE).length = l.length := List.length_map _
    have ho : (onE (l.take p)).length ≤ p := Nat.le_trans (onE_spec _).2.1.length_le (by rw [List.length_take]; omega)
    have hom : ((onE (l.take p)).map enE).length = (onE (l.take p)).length := List.length_map _
    have i1 : inRange .i64 ((p : Int) + 1) := inR (by omega) (by omega)
    have tk : List.take (p - 0) (List.drop (0 + 0) (l.map enE)) = (l.take p).map enE := by rw [Nat.sub_zero, Nat.add_zero, List.drop_zero, List.map_take]
    refine ⟨fun hlt => ?_, fun hge => ?_⟩
    · have hp : p < l.length := by have := of_decide_eq_true hlt; omega
      have hx := onE_next hp
      rw [fiE_any] at hx
      rw [tk, deE_map]
      refine ⟨rfl, by omega, by omega, read_rows (by omega) (by omega) (ref_whole _), by omega, rfl, by rw [List.length_take]; omega, fun hf => ?_, fun hf => ?_⟩
      · rw [show decide (fiE (l.take p) (at' l p) < 0) = true from hf, if_neg (by simp)] at hx
        have hl1 : (onE (l.take (p + 1))).length = (onE (l.take p)).length + 1 := by rw [hx, List.length_append]; rfl
        refine ⟨by omega, read_rows (by omega) (by omega) (ref_whole _), ⟨by omega, by omega, Nat.le_refl _, by omega⟩, ?_, i1, p + 1, ?_, hp, by omega⟩
        · rw [List.take_of_length_le (by omega), hx, List.map_append]; rfl
        · unfold ocSt
          rw [hl1]; rfl
      · rw [show decide (fiE (l.take p) (at' l p) < 0) = false from hf, if_pos (by simp)] at hx
        refine ⟨i1, p + 1, ?_, hp, by omega⟩
        unfold ocSt
        rw [hx]; rfl
    · have hp : p = l.length := by have := of_decide_eq_false hge; omega
      subst hp
      rw [List.take_length]
      exact ⟨(List.length_map _).symm, rfl⟩
  · exact hF.elim


def rdo11F : List Arg → (Res → Prop) → Prop
  | [.row r_l, .v (.agg [.int .i64 i, .w64 v, .w64 w, .w64 m, .w64 n, .int .i64 k, .int .i64 j])], R => r_l = (deE r_l).map enE ∧ (deE r_l).length ≤ 1000000 ∧ R (.vrow 54 6 ((doE (deE r_l) ⟨i, v, w, m, n, k, j⟩).map enE))
  | _, _ => False

noncomputable def rdo11Cs : List (FuncId × Sx.Spec) := [(65, genSpec [none, none] ralike11F)]

theorem rdo11_run (l : List En) (i : Int) (v w m n : BitVec 64) (k j : Int) (F : List En → List AV) (es : List AV) : run rdo11Cs Try.prog 32 [.vsl 0 0 (l.map enE).length, .agg [.int .i64 i, .w64 v, .w64 w, .w64 m, .w64 n, .int .i64 k, .int .i64 j]] [some ⟨false, (pRefE.getD (0, 0)).1, (pRefE.getD (0, 0)).2, true, (l.map enE)⟩] (ddH F l ⟨i, v, w, m, n, k, j⟩) (yields (.vrow 54 6 es)) =
    ((St.mk [AV.vsl (0 : Nat) (0 : Nat) (List.length (List.map enE l)), AV.any, AV.any, AV.ptr ((0 : Nat) + (1 : Nat)) (0 : Nat) (0 : Nat) true, AV.any, AV.vsl (List.length [some (Blk.mk false (54 : TypeId) (6 : Nat) true (List.map enE l)), some (Blk.mk true (56 : Nat) (7 : Nat) true [AV.agg [AV.int IntKind.i64 i, AV.w64 v, AV.w64 w, AV.w64 m, AV.w64 n, AV.int IntKind.i64 k, AV.int IntKind.i64 j]])]) (0 : Nat) (0 : Nat), AV.int IntKind.i64 (0 : Int), AV.any, AV.any, AV.any, AV.any, AV.any, AV.any, AV.any, AV.any, AV.any, AV.any, AV.any, AV.any, AV.any, AV.any, AV.any, AV.any, AV.any, AV.any, AV.any, AV.any, AV.any, AV.any, AV.any, AV.any, AV.any, AV.any, AV.any, AV.any, AV.any, AV.any, AV.any, AV.any, AV.any, AV.any, AV.any, AV.any, AV.any, AV.any, AV.any, AV.any, AV.any, AV.any, AV.any, AV.any, AV.any] ([some (Blk.mk false (54 : TypeId) (6 : Nat) true (List.map enE l)), some (Blk.mk true (56 : Nat) (7 : Nat) true [AV.agg [AV.int IntKind.i64 i, AV.w64 v, AV.w64 w, AV.w64 m, AV.w64 n, AV.int IntKind.i64 k, AV.int IntKind.i64 j]])] ++ [some (Blk.mk true (54 : TypeId) (6 : Nat) true [])]) = ddSt F l (Sp.mk i (En.mk v w m n k j)) (0 : Nat) ∧ Nat.le (0 : Nat) (List.length l)) ∧ ∀ (p : Nat), Nat.le p (List.length l) → (Decidable.decide ((↑p : Int) < (↑(List.length (List.map enE l)) : Int)) = true → ((0 : Int) ≤ (↑p : Int) ∧ (↑p : Int) < (↑(List.length (List.map enE l)) : Int)) ∧ Blk.read Proofs.Try.prog (Blk.mk false (54 : TypeId) (6 : Nat) true (List.map enE l)) (54 : Nat) ((0 : Nat) + Int.toNat (↑p : Int)) (0 : Nat) = some (AV.agg [AV.w64 (at' l p).1, AV.w64 (at' l p).2, AV.w64 (at' l p).3, AV.w64 (at' l p).4, AV.int IntKind.i64 (at' l p).5, AV.int IntKind.i64 (at' l p).6]) ∧ ((i == (1 : Int)) = true → (alE (En.mk (at' l p).1 (at' l p).2 (at' l p).3 (at' l p).4 (at' l p).5 (at' l p).6) (En.mk v w m n k j) = true → ((i != (2 : Int)) = true → ((List.length (dpE (List.take p l) (Sp.mk i (En.mk v w m n k j))) + (1 : Nat)) * (48 : Nat) ≤ (140737488355328 : Nat) ∧ List.length (dpE (List.take p l) (Sp.mk i (En.mk v w m n k j))) + (1 : Nat) ≤ (9223372036854775807 : Nat) ∧ (0 : Nat) + (1 : Nat) ≤ List.length [AV.agg [AV.w64 v, AV.w64 w, AV.w64 m, AV.w64 n, AV.int IntKind.i64 k, AV.int IntKind.i64 j]] ∧ List.length (dpE (List.take p l) (Sp.mk i (En.mk v w m n k j))) ≤ List.length (F (dpE (List.take p l) (Sp.mk i (En.mk v w m n k j))))) ∧ List.take (List.length (dpE (List.take p l) (Sp.mk i (En.mk v w m n k j)))) (F (dpE (List.take p l) (Sp.mk i (En.mk v w m n k j)))) ++ [AV.agg [AV.w64 v, AV.w64 w, AV.w64 m, AV.w64 n, AV.int IntKind.i64 k, AV.int IntKind.i64 j]] = F (dpE (List.take (p + (1 : Nat)) l) (Sp.mk i (En.mk v w m n k j))) ∧ inRange IntKind.i64 ((↑p : Int) + (1 : Int)) ∧ ∃ (p' : Nat), St.mk [AV.vsl (0 : Nat) (0 : Nat) (List.length (List.map enE l)), AV.any, AV.any, AV.ptr ((0 : Nat) + (1 : Nat)) (0 : Nat) (0 : Nat) true, AV.any, AV.vsl ((0 : Nat) + (1 : Nat) + (1 : Nat)) (0 : Nat) (List.length (dpE (List.take p l) (Sp.mk i (En.mk v w m n k j))) + (1 : Nat)), AV.int IntKind.i64 ((↑p : Int) + (1 : Int)), AV.any, AV.any, AV.any, AV.any, AV.any, AV.any, AV.any, AV.any, AV.any, AV.any, AV.any, AV.any, AV.any, AV.any, AV.any, AV.any, AV.any, AV.any, AV.any, AV.any, AV.any, AV.any, AV.any, AV.any, AV.any, AV.any, AV.any, AV.any, AV.any, AV.any, AV.any, AV.any, AV.any, AV.any, AV.any, AV.any, AV.any, AV.any, AV.any, AV.any, AV.any, AV.any, AV.any, AV.any, AV.any] [some (Blk.mk false (54 : TypeId) (6 : Nat) true (List.map enE l)), some (Blk.mk true (56 : TypeId) (7 : Nat) true [AV.agg [AV.int IntKind.i64 i, AV.w64 v, AV.w64 w, AV.w64 m, AV.w64 n, AV.int IntKind.i64 k, AV.int IntKind.i64 j]]), some (Blk.mk true (54 : Nat) (6 : Nat) true (F (dpE (List.take (p + (1 : Nat)) l) (Sp.mk i (En.mk v w m n k j)))))] = ddSt F l (Sp.mk i (En.mk v w m n k j)) p' ∧ Nat.le p' (List.length l) ∧ List.length l + (1 : Nat) - p' < List.length l + (1 : Nat) - p) ∧ ((i != (2 : Int)) = false → ((!alE (En.mk v w m n k j) (En.mk v w m n k j)) = true → ((List.length (dpE (List.take p l) (Sp.mk i (En.mk v w m n k j))) + (1 : Nat)) * (48 : Nat) ≤ (140737488355328 : Nat) ∧ List.length (dpE (List.take p l) (Sp.mk i (En.mk v w m n k j))) + (1 : Nat) ≤ (9223372036854775807 : Nat) ∧ (0 : Nat) + (1 : Nat) ≤ List.length [AV.agg [AV.w64 v, AV.w64 w, AV.w64 m, AV.w64 n, AV.int IntKind.i64 k, AV.int IntKind.i64 j]] ∧ List.length (dpE (List.take p l) (Sp.mk i (En.mk v w m n k j))) ≤ List.length (F (dpE (List.take p l) (Sp.mk i (En.mk v w m n k j))))) ∧ List.take (List.length (dpE (List.take p l) (Sp.mk i (En.mk v w m n k j)))) (F (dpE (List.take p l) (Sp.mk i (En.mk v w m n k j)))) ++ [AV.agg [AV.w64 v, AV.w64 w, AV.w64 m, AV.w64 n, AV.int IntKind.i64 k, AV.int IntKind.i64 j]] = F (dpE (List.take (p + (1 : Nat)) l) (Sp.mk i (En.mk v w m n k j))) ∧ inRange IntKind.i64 ((↑p : Int) + (1 : Int)) ∧ ∃ (p' : Nat), St.mk [AV.vsl (0 : Nat) (0 : Nat) (List.length (List.map enE l)), AV.any, AV.any, AV.ptr ((0 : Nat) + (1 : Nat)) (0 : Nat) (0 : Nat) true, AV.any, AV.vsl ((0 : Nat) + (1 : Nat) + (1 : Nat)) (0 : Nat) (List.length (dpE (List.take p l) (Sp.mk i (En.mk v w m n k j))) + (1 : Nat)), AV.int IntKind.i64 ((↑p : Int) + (1 : Int)), AV.any, AV.any, AV.any, AV.any, AV.any, AV.any, AV.any, AV.any, AV.any, AV.any, AV.any, AV.any, AV.any, AV.any, AV.any, AV.any, AV.any, AV.any, AV.any, AV.any, AV.any, AV.any, AV.any, AV.any, AV.any, AV.any, AV.any, AV.any, AV.any, AV.any, AV.any, AV.any, AV.any, AV.any, AV.any, AV.any, AV.any, AV.any, AV.any, AV.any, AV.any, AV.any, AV.any, AV.any, AV.any] [some (Blk.mk false (54 : TypeId) (6 : Nat) true (List.map enE l)), some (Blk.mk true (56 : TypeId) (7 : Nat) true [AV.agg [AV.int IntKind.i64 i, AV.w64 v, AV.w64 w, AV.w64 m, AV.w64 n, AV.int IntKind.i64 k, AV.int IntKind.i64 j]]), some (Blk.mk true (54 : Nat) (6 : Nat) true (F (dpE (List.take (p + (1 : Nat)) l) (Sp.mk i (En.mk v w m n k j)))))] = ddSt F l (Sp.mk i (En.mk v w m n k j)) p' ∧ Nat.le p' (List.length l) ∧ List.length l + (1 : Nat) - p' < List.length l + (1 : Nat) - p) ∧ ((!alE (En.mk v w m n k j) (En.mk v w m n k j)) = false → inRange IntKind.i64 ((↑p : Int) + (1 : Int)) ∧ ∃ (p' : Nat), St.mk [AV.vsl (0 : Nat) (0 : Nat) (List.length (List.map enE l)), AV.any, AV.any, AV.ptr ((0 : Nat) + (1 : Nat)) (0 : Nat) (0 : Nat) true, AV.any, AV.vsl ((0 : Nat) + (1 : Nat) + (1 : Nat)) (0 : Nat) (List.length (dpE (List.take p l) (Sp.mk i (En.mk v w m n k j)))), AV.int IntKind.i64 ((↑p : Int) + (1 : Int)), AV.any, AV.any, AV.any, AV.any, AV.any, AV.any, AV.any, AV.any, AV.any, AV.any, AV.any, AV.any, AV.any, AV.any, AV.any, AV.any, AV.any, AV.any, AV.any, AV.any, AV.any, AV.any, AV.any, AV.any, AV.any, AV.any, AV.any, AV.any, AV.any, AV.any, AV.any, AV.any, AV.any, AV.any, AV.any, AV.any, AV.any, AV.any, AV.any, AV.any, AV.any, AV.any, AV.any, AV.any, AV.any] [some (Blk.mk false (54 : TypeId) (6 : Nat) true (List.map enE l)), some (Blk.mk true (56 : TypeId) (7 : Nat) true [AV.agg [AV.int IntKind.i64 i, AV.w64 v, AV.w64 w, AV.w64 m, AV.w64 n, AV.int IntKind.i64 k, AV.int IntKind.i64 j]]), some (Blk.mk true (54 : TypeId) (6 : Nat) true (F (dpE (List.take p l) (Sp.mk i (En.mk v w m n k j)))))] = ddSt F l (Sp.mk i (En.mk v w m n k j)) p' ∧ Nat.le p' (List.length l) ∧ List.length l + (1 : Nat) - p' < List.length l + (1 : Nat) - p))) ∧ (alE (En.mk (at' l p).1 (at' l p).2 (at' l p).3 (at' l p).4 (at' l p).5 (at' l p).6) (En.mk v w m n k j) = false → ((i != (2 : Int)) = true → ((List.length (dpE (List.take p l) (Sp.mk i (En.mk v w m n k j))) + (1 : Nat)) * (48 : Nat) ≤ (140737488355328 : Nat) ∧ List.length (dpE (List.take p l) (Sp.mk i (En.mk v w m n k j))) + (1 : Nat) ≤ (9223372036854775807 : Nat) ∧ (0 : Nat) + (1 : Nat) ≤ List.length [AV.agg [AV.w64 (at' l p).1, AV.w64 (at' l p).2, AV.w64 (at' l p).3, AV.w64 (at' l p).4, AV.int IntKind.i64 (at' l p).5, AV.int IntKind.i64 (at' l p).6]] ∧ List.length (dpE (List.take p l) (Sp.mk i (En.mk v w m n k j))) ≤ List.length (F (dpE (List.take p l) (Sp.mk i (En.mk v w m n k j))))) ∧ List.take (List.length (dpE (List.take p l) (Sp.mk i (En.mk v w m n k j)))) (F (dpE (List.take p l) (Sp.mk i (En.mk v w m n k j)))) ++ [AV.agg [AV.w64 (at' l p).1, AV.w64 (at' l p).2, AV.w64 (at' l p).3, AV.w64 (at' l p).4, AV.int IntKind.i64 (at' l p).5, AV.int IntKind.i64 (at' l p).6]] = F (dpE (List.take (p + (1 : Nat)) l) (Sp.mk i (En.mk v w m n k j))) ∧ inRange IntKind.i64 ((↑p : Int) + (1 : Int)) ∧ ∃ (p' : Nat), St.mk [AV.vsl (0 : Nat) (0 : Nat) (List.length (List.map enE l)), AV.any, AV.any, AV.ptr ((0 : Nat) + (1 : Nat)) (0 : Nat) (0 : Nat) true, AV.any, AV.vsl ((0 : Nat) + (1 : Nat) + (1 : Nat)) (0 : Nat) (List.length (dpE (List.take p l) (Sp.mk i (En.mk v w m n k j))) + (1 : Nat)), AV.int IntKind.i64 ((↑p : Int) + (1 : Int)), AV.any, AV.any, AV.any, AV.any, AV.any, AV.any, AV.any, AV.any, AV.any, AV.any, AV.any, AV.any, AV.any, AV.any, AV.any, AV.any, AV.any, AV.any, AV.any, AV.any, AV.any, AV.any, AV.any, AV.any, AV.any, AV.any, AV.any, AV.any, AV.any, AV.any, AV.any, AV.any, AV.any, AV.any, AV.any, AV.any, AV.any, AV.any, AV.any, AV.any, AV.any, AV.any, AV.any, AV.any, AV.any] [some (Blk.mk false (54 : TypeId) (6 : Nat) true (List.map enE l)), some (Blk.mk true (56 : TypeId) (7 : Nat) true [AV.agg [AV.int IntKind.i64 i, AV.w64 v, AV.w64 w, AV.w64 m, AV.w64 n, AV.int IntKind.i64 k, AV.int IntKind.i64 j]]), some (Blk.mk true (54 : Nat) (6 : Nat) true (F (dpE (List.take (p + (1 : Nat)) l) (Sp.mk i (En.mk v w m n k j)))))] = ddSt F l (Sp.mk i (En.mk v w m n k j)) p' ∧ Nat.le p' (List.length l) ∧ List.length l + (1 : Nat) - p' < List.length l + (1 : Nat) - p) ∧ ((i != (2 : Int)) = false → ((!alE (En.mk (at' l p).1 (at' l p).2 (at' l p).3 (at' l p).4 (at' l p).5 (at' l p).6) (En.mk v w m n k j)) = true → ((List.length (dpE (List.take p l) (Sp.mk i (En.mk v w m n k j))) + (1 : Nat)) * (48 : Nat) ≤ (140737488355328 : Nat) ∧ List.length (dpE (List.take p l) (Sp.mk i (En.mk v w m n k j))) + (1 : Nat) ≤ (9223372036854775807 : Nat) ∧ (0 : Nat) + (1 : Nat) ≤ List.length [AV.agg [AV.w64 (at' l p).1, AV.w64 (at' l p).2, AV.w64 (at' l p).3, AV.w64 (at' l p).4, AV.int IntKind.i64 (at' l p).5, AV.int IntKind.i64 (at' l p).6]] ∧ List.length (dpE (List.take p l) (Sp.mk i (En.mk v w m n k j))) ≤ List.length (F (dpE (List.take p l) (Sp.mk i (En.mk v w m n k j))))) ∧ List.take (List.length (dpE (List.take p l) (Sp.mk i (En.mk v w m n k j)))) (F (dpE (List.take p l) (Sp.mk i (En.mk v w m n k j)))) ++ [AV.agg [AV.w64 (at' l p).1, AV.w64 (at' l p).2, AV.w64 (at' l p).3, AV.w64 (at' l p).4, AV.int IntKind.i64 (at' l p).5, AV.int IntKind.i64 (at' l p).6]] = F (dpE (List.take (p + (1 : Nat)) l) (Sp.mk i (En.mk v w m n k j))) ∧ inRange IntKind.i64 ((↑p : Int) + (1 : Int)) ∧ ∃ (p' : Nat), St.mk [AV.vsl (0 : Nat) (0 : Nat) (List.length (List.map enE l)), AV.any, AV.any, AV.ptr ((0 : Nat) + (1 : Nat)) (0 : Nat) (0 : Nat) true, AV.any, AV.vsl ((0 : Nat) + (1 : Nat) + (1 : Nat)) (0 : Nat) (List.length (dpE (List.take p l) (Sp.mk i (En.mk v w m n k j))) + (1 : Nat)), AV.int IntKind.i64 ((↑p : Int) + (1 : Int)), AV.any, AV.any, AV.any, AV.any, AV.any, AV.any, AV.any, AV.any, AV.any, AV.any, AV.any, AV.any, AV.any, AV.any, AV.any, AV.any, AV.any, AV.any, AV.any, AV.any, AV.any, AV.any, AV.any, AV.any, AV.any, AV.any, AV.any, AV.any, AV.any, AV.any, AV.any, AV.any, AV.any, AV.any, AV.any, AV.any, AV.any, AV.any, AV.any, AV.any, AV.any, AV.any, AV.any, AV.any, AV.any] [some (Blk.mk false (54 : TypeId) (6 : Nat) true (List.map enE l)), some (Blk.mk true (56 : TypeId) (7 : Nat) true [AV.agg [AV.int IntKind.i64 i, AV.w64 v, AV.w64 w, AV.w64 m, AV.w64 n, AV.int IntKind.i64 k, AV.int IntKind.i64 j]]), some (Blk.mk true (54 : Nat) (6 : Nat) true (F (dpE (List.take (p + (1 : Nat)) l) (Sp.mk i (En.mk v w m n k j)))))] = ddSt F l (Sp.mk i (En.mk v w m n k j)) p' ∧ Nat.le p' (List.length l) ∧ List.length l + (1 : Nat) - p' < List.length l + (1 : Nat) - p) ∧ ((!alE (En.mk (at' l p).1 (at' l p).2 (at' l p).3 (at' l p).4 (at' l p).5 (at' l p).6) (En.mk v w m n k j)) = false → inRange IntKind.i64 ((↑p : Int) + (1 : Int)) ∧ ∃ (p' : Nat), St.mk [AV.vsl (0 : Nat) (0 : Nat) (List.length (List.map enE l)), AV.any, AV.any, AV.ptr ((0 : Nat) + (1 : Nat)) (0 : Nat) (0 : Nat) true, AV.any, AV.vsl ((0 : Nat) + (1 : Nat) + (1 : Nat)) (0 : Nat) (List.length (dpE (List.take p l) (Sp.mk i (En.mk v w m n k j)))), AV.int IntKind.i64 ((↑p : Int) + (1 : Int)), AV.any, AV.any, AV.any, AV.any, AV.any, AV.any, AV.any, AV.any, AV.any, AV.any, AV.any, AV.any, AV.any, AV.any, AV.any, AV.any, AV.any, AV.any, AV.any, AV.any, AV.any, AV.any, AV.any, AV.any, AV.any, AV.any, AV.any, AV.any, AV.any, AV.any, AV.any, AV.any, AV.any, AV.any, AV.any, AV.any, AV.any, AV.any, AV.any, AV.any, AV.any, AV.any, AV.any, AV.any, AV.any] [some (Blk.mk false (54 : TypeId) (6 : Nat) true (List.map enE l)), some (Blk.mk true (56 : TypeId) (7 : Nat) true [AV.agg [AV.int IntKind.i64 i, AV.w64 v, AV.w64 w, AV.w64 m, AV.w64 n, AV.int IntKind.i64 k, AV.int IntKind.i64 j]]), some (Blk.mk true (54 : TypeId) (6 : Nat) true (F (dpE (List.take p l) (Sp.mk i (En.mk v w m n k j)))))] = ddSt F l (Sp.mk i (En.mk v w m n k j)) p' ∧ Nat.le p' (List.length l) ∧ List.length l + (1 : Nat) - p' < List.length l + (1 : Nat) - p)))) ∧ ((i == (1 : Int)) = false → ((i != (2 : Int)) = true → ((List.length (dpE (List.take p l) (Sp.mk i (En.mk v w m n k j))) + (1 : Nat)) * (48 : Nat) ≤ (140737488355328 : Nat) ∧ List.length (dpE (List.take p l) (Sp.mk i (En.mk v w m n k j))) + (1 : Nat) ≤ (9223372036854775807 : Nat) ∧ (0 : Nat) + (1 : Nat) ≤ List.length [AV.agg [AV.w64 (at' l p).1, AV.w64 (at' l p).2, AV.w64 (at' l p).3, AV.w64 (at' l p).4, AV.int IntKind.i64 (at' l p).5, AV.int IntKind.i64 (at' l p).6]] ∧ List.length (dpE (List.take p l) (Sp.mk i (En.mk v w m n k j))) ≤ List.length (F (dpE (List.take p l) (Sp.mk i (En.mk v w m n k j))))) ∧ List.take (List.length (dpE (List.take p l) (Sp.mk i (En.mk v w m n k j)))) (F (dpE (List.take p l) (Sp.mk i (En.mk v w m n k j)))) ++ [AV.agg [AV.w64 (at' l p).1, AV.w64 (at' l p).2, AV.w64 (at' l p).3, AV.w64 (at' l p).4, AV.int IntKind.i64 (at' l p).5, AV.int IntKind.i64 (at' l p).6]] = F (dpE (List.take (p + (1 : Nat)) l) (Sp.mk i (En.mk v w m n k j))) ∧ inRange IntKind.i64 ((↑p : Int) + (1 : Int)) ∧ ∃ (p' : Nat), St.mk [AV.vsl (0 : Nat) (0 : Nat) (List.length (List.map enE l)), AV.any, AV.any, AV.ptr ((0 : Nat) + (1 : Nat)) (0 : Nat) (0 : Nat) true, AV.any, AV.vsl ((0 : Nat) + (1 : Nat) + (1 : Nat)) (0 : Nat) (List.length (dpE (List.take p l) (Sp.mk i (En.mk v w m n k j))) + (1 : Nat)), AV.int IntKind.i64 ((↑p : Int) + (1 : Int)), AV.any, AV.any, AV.any, AV.any, AV.any, AV.any, AV.any, AV.any, AV.any, AV.any, AV.any, AV.any, AV.any, AV.any, AV.any, AV.any, AV.any, AV.any, AV.any, AV.any, AV.any, AV.any, AV.any, AV.any, AV.any, AV.any, AV.any, AV.any, AV.any, AV.any, AV.any, AV.any, AV.any, AV.any, AV.any, AV.any, AV.any, AV.any, AV.any, AV.any, AV.any, AV.any, AV.any, AV.any, AV.any] [some (Blk.mk false (54 : TypeId) (6 : Nat) true (List.map enE l)), some (Blk.mk true (56 : TypeId) (7 : Nat) true [AV.agg [AV.int IntKind.i64 i, AV.w64 v, AV.w64 w, AV.w64 m, AV.w64 n, AV.int IntKind.i64 k, AV.int IntKind.i64 j]]), some (Blk.mk true (54 : Nat) (6 : Nat) true (F (dpE (List.take (p + (1 : Nat)) l) (Sp.mk i (En.mk v w m n k j)))))] = ddSt F l (Sp.mk i (En.mk v w m n k j)) p' ∧ Nat.le p' (List.length l) ∧ List.length l + (1 : Nat) - p' < List.length l + (1 : Nat) - p) ∧ ((i != (2 : Int)) = false → ((!alE (En.mk (at' l p).1 (at' l p).2 (at' l p).3 (at' l p).4 (at' l p).5 (at' l p).6) (En.mk v w m n k j)) = true → ((List.length (dpE (List.take p l) (Sp.mk i (En.mk v w m n k j))) + (1 : Nat)) * (48 : Nat) ≤ (140737488355328 : Nat) ∧ List.length (dpE (List.take p l) (Sp.mk i (En.mk v w m n k j))) + (1 : Nat) ≤ (9223372036854775807 : Nat) ∧ (0 : Nat) + (1 : Nat) ≤ List.length [AV.agg [AV.w64 (at' l p).1, AV.w64 (at' l p).2, AV.w64 (at' l p).3, AV.w64 (at' l p).4, AV.int IntKind.i64 (at' l p).5, AV.int IntKind.i64 (at' l p).6]] ∧ List.length (dpE (List.take p l) (Sp.mk i (En.mk v w m n k j))) ≤ List.length (F (dpE (List.take p l) (Sp.mk i (En.mk v w m n k j))))) ∧ List.take (List.length (dpE (List.take p l) (Sp.mk i (En.mk v w m n k j)))) (F (dpE (List.take p l) (Sp.mk i (En.mk v w m n k j)))) ++ [AV.agg [AV.w64 (at' l p).1, AV.w64 (at' l p).2, AV.w64 (at' l p).3, AV.w64 (at' l p).4, AV.int IntKind.i64 (at' l p).5, AV.int IntKind.i64 (at' l p).6]] = F (dpE (List.take (p + (1 : Nat)) l) (Sp.mk i (En.mk v w m n k j))) ∧ inRange IntKind.i64 ((↑p : Int) + (1 : Int)) ∧ ∃ (p' : Nat), St.mk [AV.vsl (0 : Nat) (0 : Nat) (List.length (List.map enE l)), AV.any, AV.any, AV.ptr ((0 : Nat) + (1 : Nat)) (0 : Nat) (0 : Nat) true, AV.any, AV.vsl ((0 : Nat) + (1 : Nat) + (1 : Nat)) (0 : Nat) (List.length (dpE (List.take p l) (Sp.mk i (En.mk v w m n k j))) + (1 : Nat)), AV.int IntKind.i64 ((↑p : Int) + (1 : Int)), AV.any, AV.any, AV.any, AV.any, AV.any, AV.any, AV.any, AV.any, AV.any, AV.any, AV.any, AV.any, AV.any, AV.any, AV.any, AV.any, AV.any, AV.any, AV.any, AV.any, AV.any, AV.any, AV.any, AV.any, AV.any, AV.any, AV.any, AV.any, AV.any, AV.any, AV.any, AV.any, AV.any, AV.any, AV.any, AV.any, AV.any, AV.any, AV.any, AV.any, AV.any, AV.any, AV.any, AV.any, AV.any] [some (Blk.mk false (54 : TypeId) (6 : Nat) true (List.map enE l)), some (Blk.mk true (56 : TypeId) (7 : Nat) true [AV.agg [AV.int IntKind.i64 i, AV.w64 v, AV.w64 w, AV.w64 m, AV.w64 n, AV.int IntKind.i64 k, AV.int IntKind.i64 j]]), some (Blk.mk true (54 : Nat) (6 : Nat) true (F (dpE (List.take (p + (1 : Nat)) l) (Sp.mk i (En.mk v w m n k j)))))] = ddSt F l (Sp.mk i (En.mk v w m n k j)) p' ∧ Nat.le p' (List.length l) ∧ List.length l + (1 : Nat) - p' < List.length l + (1 : Nat) - p) ∧ ((!alE (En.mk (at' l p).1 (at' l p).2 (at' l p).3 (at' l p).4 (at' l p).5 (at' l p).6) (En.mk v w m n k j)) = false → inRange IntKind.i64 ((↑p : Int) + (1 : Int)) ∧ ∃ (p' : Nat), St.mk [AV.vsl (0 : Nat) (0 : Nat) (List.length (List.map enE l)), AV.any, AV.any, AV.ptr ((0 : Nat) + (1 : Nat)) (0 : Nat) (0 : Nat) true, AV.any, AV.vsl ((0 : Nat) + (1 : Nat) + (1 : Nat)) (0 : Nat) (List.length (dpE (List.take p l) (Sp.mk i (En.mk v w m n k j)))), AV.int IntKind.i64 ((↑p : Int) + (1 : Int)), AV.any, AV.any, AV.any, AV.any, AV.any, AV.any, AV.any, AV.any, AV.any, AV.any, AV.any, AV.any, AV.any, AV.any, AV.any, AV.any, AV.any, AV.any, AV.any, AV.any, AV.any, AV.any, AV.any, AV.any, AV.any, AV.any, AV.any, AV.any, AV.any, AV.any, AV.any, AV.any, AV.any, AV.any, AV.any, AV.any, AV.any, AV.any, AV.any, AV.any, AV.any, AV.any, AV.any, AV.any, AV.any] [some (Blk.mk false (54 : TypeId) (6 : Nat) true (List.map enE l)), some (Blk.mk true (56 : TypeId) (7 : Nat) true [AV.agg [AV.int IntKind.i64 i, AV.w64 v, AV.w64 w, AV.w64 m, AV.w64 n, AV.int IntKind.i64 k, AV.int IntKind.i64 j]]), some (Blk.mk true (54 : TypeId) (6 : Nat) true (F (dpE (List.take p l) (Sp.mk i (En.mk v w m n k j)))))] = ddSt F l (Sp.mk i (En.mk v w m n k j)) p' ∧ Nat.le p' (List.length l) ∧ List.length l + (1 : Nat) - p' < List.length l + (1 : Nat) - p)))) ∧ (Decidable.decide ((↑p : Int) < (↑(List.length (List.map enE l)) : Int)) = false → ((i == (0 : Int)) = true → ((List.length (dpE (List.take p l) (Sp.mk i (En.mk v w m n k j))) + (1 : Nat)) * (48 : Nat) ≤ (140737488355328 : Nat) ∧ List.length (dpE (List.take p l) (Sp.mk i (En.mk v w m n k j))) + (1 : Nat) ≤ (9223372036854775807 : Nat) ∧ (0 : Nat) + (1 : Nat) ≤ List.length [AV.agg [AV.w64 v, AV.w64 w, AV.w64 m, AV.w64 n, AV.int IntKind.i64 k, AV.int IntKind.i64 j]] ∧ List.length (dpE (List.take p l) (Sp.mk i (En.mk v w m n k j))) ≤ List.length (F (dpE (List.take p l) (Sp.mk i (En.mk v w m n k j))))) ∧ List.take (List.length (dpE (List.take p l) (Sp.mk i (En.mk v w m n k j)))) (F (dpE (List.take p l) (Sp.mk i (En.mk v w m n k j)))) ++ [AV.agg [AV.w64 v, AV.w64 w, AV.w64 m, AV.w64 n, AV.int IntKind.i64 k, AV.int IntKind.i64 j]] = F (doE l (Sp.mk i (En.mk v w m n k j))) ∧ List.length (dpE (List.take p l) (Sp.mk i (En.mk v w m n k j))) + (1 : Nat) = List.length es ∧ some (Blk.mk true (54 : Nat) (6 : Nat) true (F (doE l (Sp.mk i (En.mk v w m n k j))))) = some (Blk.mk true (54 : TypeId) (6 : Nat) true es)) ∧ ((i == (0 : Int)) = false → List.length (dpE (List.take p l) (Sp.mk i (En.mk v w m n k j))) = List.length es ∧ some (Blk.mk true (54 : TypeId) (6 : Nat) true (F (dpE (List.take p l) (Sp.mk i (En.mk v w m n k j))))) = some (Blk.mk true (54 : TypeId) (6 : Nat) true es)))) := by kernel_rfl

theorem rdo11Cs_ok : ∀ e ∈ rdo11Cs, SpecOK Try.prog e.1 e.2 := by
  intro e he
  simp only [rdo11Cs, List.mem_cons, List.not_mem_nil, or_false] at he
  rcases he with rfl
  · exact ralike11_ok

theorem rdo11_ok : SpecOK Try.prog 32 (genSpec [pRefE, none] rdo11F) := by
  refine genSpec_ok (run_ok (l := rdo11Cs) rdo11Cs_ok mixed noNG) fun l R hF => ?_
  unfold rdo11F at hF
  split at hF
  · rename_i r_l i v w m n k j
    obtain ⟨hr_l, hl, hF⟩ := hF
    generalize deE r_l = l at hr_l hl hF
    subst hr_l
    refine ⟨_, hF, trivial, (ddH (List.map enE) l ⟨i, v, w, m, n, k, j⟩), ?_⟩
    show run rdo11Cs Try.prog _ [.vsl 0 0 (l.map enE).length, .agg [.int .i64 i, .w64 v, .w64 w, .w64 m, .w64 n, .int .i64 k, .int .i64 j]] [some ⟨false, (pRefE.getD (0, 0)).1, (pRefE.getD (0, 0)).2, true, (l.map enE)⟩] _ _
    rw [rdo11_run]
    generalize hs : (⟨i, ⟨v, w, m, n, k, j⟩⟩ : Sp) = s
    have hi : s.k = i := by rw [← hs]
    have hy : s.e = ⟨v, w, m, n, k, j⟩ := by rw [← hs]
    have d0 : dpE (l.take 0) s = [] := List.length_eq_zero_iff.1 (Nat.le_zero.1 (dpE_le (l.take 0) s))
    refine ⟨⟨by unfold ddSt; rw [d0, ← hs]; rfl, Nat.zero_le _⟩, ?_⟩
    intro p (hp0 : p ≤ l.length)
    have hlm : (l.map enE).length = l.length := List.length_map _
    have hd : (dpE (l.take p) s).length ≤ p := Nat.le_trans (dpE_le _ _) (by rw [List.length_take]; omega)
    have hdm : ((dpE (l.take p) s).map enE).length = (dpE (l.take p) s).length := List.length_map _
    have i1 : inRange .i64 ((p : Int) + 1) := inR (by omega) (by omega)
    refine ⟨fun hlt => ?_, fun hge => ?_⟩
    · have hp : p < l.length := by have := of_decide_eq_true hlt; omega
      have hx := dpE_next hp s
      have stay : dpE [at' l p] s = [] → inRange .i64 ((p : Int) + 1) ∧ ∃ p', (⟨[.vsl 0 0 (l.map enE).length, .any, .any, .ptr 1 0 0 true, .any, .vsl 2 0 (dpE (l.take p) s).length, .int .i64 ((p : Int) + 1), .any, .any, .any, .any, .any, .any, .any, .any, .any, .any, .any, .any, .any, .any, .any, .any, .any, .any, .any, .any, .any, .any, .any, .any, .any, .any, .any, .any, .any, .any, .any, .any, .any, .any, .any, .any, .any, .any, .any, .any, .any, .any, .any, .any, .any], [some ⟨false, 54, 6, true, l.map enE⟩, some ⟨true, 56, 7, true, [.agg [.int .i64 i, .w64 v, .w64 w, .w64 m, .w64 n, .int .i64 k, .int .i64 j]]⟩, some ⟨true, 54, 6, true, (dpE (l.take p) s).map enE⟩]⟩ : St) = ddSt (List.map enE) l s p' ∧ Nat.le p' l.length ∧ l.length + 1 - p' < l.length + 1 - p := fun e => by
        rw [e, List.append_nil] at hx
        refine ⟨i1, p + 1, ?_, hp, by omega⟩
        unfold ddSt
        rw [hx, ← hs]; rfl
      have put : ∀ x : En, dpE [at' l p] s = [x] → (((dpE (l.take p) s).length + 1) * 48 ≤ 140737488355328 ∧ (dpE (l.take p) s).length + 1 ≤ 9223372036854775807 ∧ 0 + 1 ≤ List.length [enE x] ∧ (dpE (l.take p) s).length ≤ ((dpE (l.take p) s).map enE).length) ∧ List.take (dpE (l.take p) s).length ((dpE (l.take p) s).map enE) ++ [enE x] = (dpE (l.take (p + 1)) s).map enE ∧ inRange .i64 ((p : Int) + 1) ∧
          ∃ p', (⟨[.vsl 0 0 (l.map enE).length, .any, .any, .ptr 1 0 0 true, .any, .vsl 2 0 ((dpE (l.take p) s).length + 1), .int .i64 ((p : Int) + 1), .any, .any, .any, .any, .any, .any, .any, .any, .any, .any, .any, .any, .any, .any, .any, .any, .any, .any, .any, .any, .any, .any, .any, .any, .any, .any, .any, .any, .any, .any, .any, .any, .any, .any, .any, .any, .any, .any, .any, .any, .any, .any, .any, .any, .any], [some ⟨false, 54, 6, true, l.map enE⟩, some ⟨true, 56, 7, true, [.agg [.int .i64 i, .w64 v, .w64 w, .w64 m, .w64 n, .int .i64 k, .int .i64 j]]⟩, some ⟨true, 54, 6, true, (dpE (l.take (p + 1)) s).map enE⟩]⟩ : St) = ddSt (List.map enE) l s p' ∧ Nat.le p' l.length ∧ l.length + 1 - p' < l.length + 1 - p := fun x e => by
        rw [e] at hx
        have hl1 : (dpE (l.take (p + 1)) s).length = (dpE (l.take p) s).length + 1 := by rw [hx, List.length_append]; rfl
        refine ⟨⟨by omega, by omega, Nat.le_refl _, by omega⟩, ?_, i1, p + 1, ?_, hp, by omega⟩
        · rw [List.take_of_length_le (by omega), hx, List.map_append]; rfl
        · unfold ddSt
          rw [hl1, ← hs]; rfl
      have k1 : i = 1 → dpE [at' l p] s = [if alE (at' l p) s.e then s.e else at' l p] := fun h => by unfold dpE; rw [hi, if_pos h]; rfl
      have k2 : i = 2 → dpE [at' l p] s = if alE (at' l p) s.e then [] else [at' l p] := fun h => by
        unfold dpE
        rw [hi, if_neg (by omega), if_pos h, List.filter_cons]
        cases alE (at' l p) s.e <;> rfl
      have k0 : i ≠ 1 → i ≠ 2 → dpE [at' l p] s = [at' l p] := fun h h' => by unfold dpE; rw [hi, if_neg h, if_neg h']
      rw [hy] at k1 k2
      refine ⟨by omega, read_rows (by omega) (by omega) (ref_whole _), fun h1 => ⟨fun ha => ⟨fun _ => put ⟨v, w, m, n, k, j⟩ ?_, fun h2 => ?_⟩, fun ha => ⟨fun _ => put (at' l p) ?_, fun h2 => ?_⟩⟩, fun h1 => ⟨fun h2 => put (at' l p) ?_, fun h2 => ⟨fun ha => put (at' l p) ?_, fun ha => stay ?_⟩⟩⟩
      · have h1 : i = 1 := by simpa using h1
        rw [k1 h1, if_pos ha]
      · have h1 : i = 1 := by simpa using h1
        have h2 : i = 2 := by simpa using h2
        omega
      · have h1 : i = 1 := by simpa using h1
        rw [k1 h1, if_neg (by rw [show alE (at' l p) _ = false from ha]; simp)]
      · have h1 : i = 1 := by simpa using h1
        have h2 : i = 2 := by simpa using h2
        omega
      · have h1 : i ≠ 1 := by simpa using h1
        have h2 : i ≠ 2 := by simpa using h2
        exact k0 h1 h2
      · have h2 : i = 2 := by simpa using h2
        have ha : alE (at' l p) ⟨v, w, m, n, k, j⟩ = false := by simpa using ha
        rw [k2 h2, if_neg (by rw [ha]; simp)]
      · have h2 : i = 2 := by simpa using h2
        have ha : alE (at' l p) ⟨v, w, m, n, k, j⟩ = true := by simpa using ha
        rw [k2 h2, if_pos ha]
    · have hp : p = l.length := by have := of_decide_eq_false hge; omega
      subst hp
      rw [List.take_length] at hd hdm ⊢
      have e := doE_dp l s
      refine ⟨fun h => ?_, fun h => ?_⟩
      · have h : i = 0 := by simpa using h
        rw [hi, if_pos h, hy] at e
        have hl1 : (doE l s).length = (dpE l s).length + 1 := by rw [e, List.length_append]; rfl
        refine ⟨⟨by omega, by omega, Nat.le_refl _, by omega⟩, ?_, by rw [List.length_map]; omega, rfl⟩
        rw [List.take_of_length_le (by omega), e, List.map_append]; rfl
      · have h : i ≠ 0 := by simpa using h
        rw [hi, if_neg h] at e
        rw [e]
        exact ⟨(List.length_map _).symm, rfl⟩
  · exact hF.elim


end Go.Proofs.Ytnjbgbdcbejciaa.L1
end

section
/-
  Layer 11: the document's Steps.
-/
namespace Go.Proofs.Ytnjbgbdcbejciaa.L1
open Go.Sx Go.Sx.M

/-- The steps of the second row's first p entries; those, and of the first row's last p. -/
def suU (a b : List En) (p : Nat) : List Sp := (b.take p).flatMap (stU a)
def suV (a b : List En) (p : Nat) : List Sp := b.flatMap (stU a) ++ (a.reverse.take p).flatMap (stV b)
/-- The first row, once and sorted. -/
def soE (l : List En) : List En := srE (onE l)

theorem suU_next {a b : List En} {p : Nat} (hp : p < b.length) : suU a b (p + 1) = suU a b p ++ stU a (at' b p) := by
  have e : b.take (p + 1) = b.take p ++ [at' b p] := by rw [List.take_add_one, at_get hp]; rfl
  unfold suU
  rw [e, List.flatMap_append]
  simp

theorem suV_next {a b : List En} {p : Nat} (hp : p < a.length) : suV a b (p + 1) = suV a b p ++ stV b (at' a (a.length - 1 - p)) := by
  have e : a.reverse.take (p + 1) = a.reverse.take p ++ [at' a (a.length - 1 - p)] := by
    rw [List.take_add_one]
    congr 1
    rw [List.getElem?_reverse hp, at_get (by omega)]; rfl
  unfold suV
  rw [e, List.flatMap_append, List.append_assoc]
  simp

theorem flat_le {f : En → List Sp} (hf : ∀ y, (f y).length ≤ 1) (b : List En) : (b.flatMap f).length ≤ b.length := by
  induction b with
  | nil => exact Nat.le_refl _
  | cons y b ih =>
    rw [List.flatMap_cons, List.length_append, List.length_cons]
    have := hf y
    omega

theorem suU_le (a b : List En) (p : Nat) : (suU a b p).length ≤ p := Nat.le_trans (flat_le (stU_one a) _) (by rw [List.length_take]; omega)
theorem suV_le (a b : List En) (p : Nat) : (suV a b p).length ≤ b.length + p := by
  unfold suV
  rw [List.length_append]
  have h1 := flat_le (stU_one a) b
  have h2 := flat_le (stV_one b) (a.reverse.take p)
  rw [List.length_take] at h2
  omega

def stRows (G : List Sp → List AV) (o n : List En) (r : List Sp) : List (Option Blk) := [some ⟨false, 54, 6, true, o.map enE⟩, some ⟨false, 54, 6, true, n.map enE⟩, some ⟨true, 54, 6, true, (soE o).map enE⟩, some ⟨true, 54, 6, true, (soE n).map enE⟩, some ⟨true, 56, 7, true, G r⟩]
def suSt (G : List Sp → List AV) (o n : List En) (p : Nat) : St :=
  ⟨[.any, .any, .any, .any, .any, .vsl 2 0 ((soE o).map enE).length, .vsl 3 0 ((soE n).map enE).length, .vsl 4 0 (suU (soE o) (soE n) p).length, .int .i64 p, .any, .any, .any, .any, .any, .any, .any, .any, .any, .any, .any, .any, .any, .any, .any, .any, .any, .any, .any, .any, .any, .any, .any, .any, .any, .any, .any, .any, .any, .any, .any, .any, .any, .any, .any, .any, .any, .any, .any, .any, .any, .any, .any, .any, .any, .any, .any, .any, .any, .any, .any, .any, .any, .any, .any, .any, .any, .any, .any, .any, .any, .any, .any, .any, .any, .any, .any, .any, .any, .any, .any, .any, .any, .any, .any, .any], stRows G o n (suU (soE o) (soE n) p)⟩
def svSt (G : List Sp → List AV) (o n : List En) (p : Nat) : St :=
  ⟨[.any, .any, .any, .any, .any, .vsl 2 0 ((soE o).map enE).length, .vsl 3 0 ((soE n).map enE).length, .vsl 4 0 (suV (soE o) (soE n) p).length, .any, .any, .int .i64 ((((soE o).map enE).length : Int) - 1 - p), .any, .any, .any, .any, .any, .any, .any, .any, .any, .any, .any, .any, .any, .any, .any, .any, .any, .any, .any, .any, .any, .any, .any, .any, .any, .any, .any, .any, .any, .any, .any, .any, .any, .any, .any, .any, .any, .any, .any, .any, .any, .any, .any, .any, .any, .any, .any, .any, .any, .any, .any, .any, .any, .any, .any, .any, .any, .any, .any, .any, .any, .any, .any, .any, .any, .any, .any, .any, .any, .any, .any, .any, .any, .any], stRows G o n (suV (soE o) (soE n) p)⟩
def suM0 : Modes := ⟨[0, 0, 0, 0, 0, 1, 1, 1, 2, 0, 0, 0, 0, 0, 0, 0, 0, 0, 0, 0, 0, 0, 0, 0, 0, 0, 0, 0, 0, 0, 0, 0, 0, 0, 0, 0, 0, 0, 0, 0, 0, 0, 0, 0, 0, 0, 0, 0, 0, 0, 0, 0, 0, 0, 0, 0, 0, 0, 0, 0, 0, 0, 0, 0, 0, 0, 0, 0, 0, 0, 0, 0, 0, 0, 0, 0, 0, 0, 0, 0, 0, 0, 0, 0, 0], [], [], [], [(7, 56, 7)]⟩
def suM : Modes := ⟨[0, 0, 0, 0, 0, 1, 1, 1, 1, 0, 0, 0, 0, 0, 0, 0, 0, 0, 0, 0, 0, 0, 0, 0, 0, 0, 0, 0, 0, 0, 0, 0, 0, 0, 0, 0, 0, 0, 0, 0, 0, 0, 0, 0, 0, 0, 0, 0, 0, 0, 0, 0, 0, 0, 0, 0, 0, 0, 0, 0, 0, 0, 0, 0, 0, 0, 0, 0, 0, 0, 0, 0, 0, 0, 0, 0, 0, 0, 0, 0, 0, 0, 0, 0, 0], [], [], [], []⟩
def suM' : Modes := ⟨[0, 0, 0, 0, 0, 1, 1, 1, 0, 0, 0, 0, 0, 0, 0, 0, 0, 0, 0, 0, 0, 0, 0, 0, 0, 0, 0, 0, 0, 0, 0, 0, 0, 0, 0, 0, 0, 0, 0, 0, 0, 0, 0, 0, 0, 0, 0, 0, 0, 0, 0, 0, 0, 0, 0, 0, 0, 0, 0, 0, 0, 0, 0, 0, 0, 0, 0, 0, 0, 0, 0, 0, 0, 0, 0, 0, 0, 0, 0, 0, 0, 0, 0, 0, 0], [], [], [], []⟩
def svM0 : Modes := ⟨[0, 0, 0, 0, 0, 1, 1, 1, 0, 0, 1, 0, 0, 0, 0, 0, 0, 0, 0, 0, 0, 0, 0, 0, 0, 0, 0, 0, 0, 0, 0, 0, 0, 0, 0, 0, 0, 0, 0, 0, 0, 0, 0, 0, 0, 0, 0, 0, 0, 0, 0, 0, 0, 0, 0, 0, 0, 0, 0, 0, 0, 0, 0, 0, 0, 0, 0, 0, 0, 0, 0, 0, 0, 0, 0, 0, 0, 0, 0, 0, 0, 0, 0, 0, 0], [], [], [], []⟩
def svM' : Modes := ⟨[0, 0, 0, 0, 0, 0, 0, 1, 0, 0, 0, 0, 0, 0, 0, 0, 0, 0, 0, 0, 0, 0, 0, 0, 0, 0, 0, 0, 0, 0, 0, 0, 0, 0, 0, 0, 0, 0, 0, 0, 0, 0, 0, 0, 0, 0, 0, 0, 0, 0, 0, 0, 0, 0, 0, 0, 0, 0, 0, 0, 0, 0, 0, 0, 0, 0, 0, 0, 0, 0, 0, 0, 0, 0, 0, 0, 0, 0, 0, 0, 0, 0, 0, 0, 0], [], [], [], []⟩
def svX (o : List En) (p : Nat) : En := at' (soE o) ((soE o).length - 1 - p)
def svH (G : List Sp → List AV) (o n : List En) : List Hint := [.nw, .linv _ 0 (svSt G o n) (fun p => p ≤ (soE o).length) (fun p => (soE o).length + 1 - p) svM0 svM0 svM' (fun _ => []) fun p =>
  [.fork [.dy, .cell (enE (svX o p)), .fork [.dy, .cell (enE (svX o p)), .rows (G (suV (soE o) (soE n) (p + 1))), .nw] [.nw]] []]]
def suH (G : List Sp → List AV) (o n : List En) : List Hint := [.nm ((onE o).map enE), .nm ((soE o).map enE), .nm ((onE n).map enE), .nm ((soE n).map enE), .linv _ 0 (suSt G o n) (fun p => p ≤ (soE n).length) (fun p => (soE n).length + 1 - p) suM0 suM suM' (fun _ => svH G o n) fun p =>
  [.fork [.dy, .cell (enE (at' (soE n) p)), .fork [.dy, .cell (enE (at' (soE n) p)), .rows (G (suU (soE o) (soE n) (p + 1))), .br false, .nw]
    [.br true, .dy, .cell (.int .i64 (at' (soE o) (fiE (soE o) (at' (soE n) p)).toNat).act), .dy, .cell (.int .i64 (at' (soE n) p).act), .fork [.dy, .cell (enE (at' (soE n) p)), .rows (G (suU (soE o) (soE n) (p + 1))), .nw] [.nw]]] []]]

def rsteps11F : List Arg → (Res → Prop) → Prop
  | [.row r_l, .row r_m], R => r_l = (deE r_l).map enE ∧ (deE r_l).length ≤ 1000000 ∧ r_m = (deE r_m).map enE ∧ (deE r_m).length ≤ 1000000 ∧ R (.vrow 56 7 ((stE (deE r_l) (deE r_m)).map spE))
  | _, _ => False

noncomputable def rsteps11Cs : List (FuncId × Sx.Spec) := [(30, genSpec [pRefE] ronce11F),
  (34, genSpec [pRefE] rsortF),
  (60, genSpec [pRefE, none] rfind11F)]

theorem rsteps11_run (l m : List En) (G : List Sp → List AV) (es : List AV) : run rsteps11Cs Try.prog 25 [.vsl 0 0 (l.map enE).length, .vsl 1 0 (m.map enE).length] [some ⟨false, (pRefE.getD (0, 0)).1, (pRefE.getD (0, 0)).2, true, (l.map enE)⟩, some ⟨false, (pRefE.getD (0, 0)).1, (pRefE.getD (0, 0)).2, true, (m.map enE)⟩] (suH G l m) (yields (.vrow 56 7 es)) =
    ((0 : Nat) + List.length (List.map enE l) ≤ List.length (List.map enE l) ∧ List.take (List.length (List.map enE l)) (List.drop (0 : Nat) (List.map enE l)) = List.map enE (deE (List.take (List.length (List.map enE l)) (List.drop (0 : Nat) (List.map enE l)))) ∧ List.length (deE (List.take (List.length (List.map enE l)) (List.drop (0 : Nat) (List.map enE l)))) ≤ (1000000 : Nat) ∧ (List.map enE (onE (deE (List.take (List.length (List.map enE l)) (List.drop (0 : Nat) (List.map enE l))))) = List.map enE (onE l) ∧ List.length (List.map enE (onE (deE (List.take (List.length (List.map enE l)) (List.drop (0 : Nat) (List.map enE l)))))) = List.length (List.map enE (onE l))) ∧ (0 : Nat) + List.length (List.map enE (onE l)) ≤ List.length (List.map enE (onE l)) ∧ List.take (List.length (List.map enE (onE l))) (List.drop (0 : Nat) (List.map enE (onE l))) = List.map enE (deE (List.take (List.length (List.map enE (onE l))) (List.drop (0 : Nat) (List.map enE (onE l))))) ∧ List.length (deE (List.take (List.length (List.map enE (onE l))) (List.drop (0 : Nat) (List.map enE (onE l))))) ≤ (1000000 : Nat) ∧ (List.map enE (srE (deE (List.take (List.length (List.map enE (onE l))) (List.drop (0 : Nat) (List.map enE (onE l)))))) = List.map enE (soE l) ∧ List.length (List.map enE (srE (deE (List.take (List.length (List.map enE (onE l))) (List.drop (0 : Nat) (List.map enE (onE l))))))) = List.length (List.map enE (soE l))) ∧ (0 : Nat) + List.length (List.map enE m) ≤ List.length (List.map enE m) ∧ List.take (List.length (List.map enE m)) (List.drop (0 : Nat) (List.map enE m)) = List.map enE (deE (List.take (List.length (List.map enE m)) (List.drop (0 : Nat) (List.map enE m)))) ∧ List.length (deE (List.take (List.length (List.map enE m)) (List.drop (0 : Nat) (List.map enE m)))) ≤ (1000000 : Nat) ∧ (List.map enE (onE (deE (List.take (List.length (List.map enE m)) (List.drop (0 : Nat) (List.map enE m))))) = List.map enE (onE m) ∧ List.length (List.map enE (onE (deE (List.take (List.length (List.map enE m)) (List.drop (0 : Nat) (List.map enE m)))))) = List.length (List.map enE (onE m))) ∧ (0 : Nat) + List.length (List.map enE (onE m)) ≤ List.length (List.map enE (onE m)) ∧ List.take (List.length (List.map enE (onE m))) (List.drop (0 : Nat) (List.map enE (onE m))) = List.map enE (deE (List.take (List.length (List.map enE (onE m))) (List.drop (0 : Nat) (List.map enE (onE m))))) ∧ List.length (deE (List.take (List.length (List.map enE (onE m))) (List.drop (0 : Nat) (List.map enE (onE m))))) ≤ (1000000 : Nat) ∧ (List.map enE (srE (deE (List.take (List.length (List.map enE (onE m))) (List.drop (0 : Nat) (List.map enE (onE m)))))) = List.map enE (soE m) ∧ List.length (List.map enE (srE (deE (List.take (List.length (List.map enE (onE m))) (List.drop (0 : Nat) (List.map enE (onE m))))))) = List.length (List.map enE (soE m))) ∧ (St.mk [AV.any, AV.any, AV.any, AV.any, AV.any, AV.vsl ((0 : Nat) + (1 : Nat) + (1 : Nat)) (0 : Nat) (List.length (List.map enE (soE l))), AV.vsl ((0 : Nat) + (1 : Nat) + (1 : Nat) + (1 : Nat)) (0 : Nat) (List.length (List.map enE (soE m))), AV.vsl (List.length [some (Blk.mk false (54 : TypeId) (6 : Nat) true (List.map enE l)), some (Blk.mk false (54 : TypeId) (6 : Nat) true (List.map enE m)), some (Blk.mk true (54 : TypeId) (6 : Nat) true (List.map enE (soE l))), some (Blk.mk true (54 : TypeId) (6 : Nat) true (List.map enE (soE m)))]) (0 : Nat) (0 : Nat), AV.int IntKind.i64 (0 : Int), AV.any, AV.any, AV.any, AV.any, AV.any, AV.any, AV.any, AV.any, AV.any, AV.any, AV.any, AV.any, AV.any, AV.any, AV.any, AV.any, AV.any, AV.any, AV.any, AV.any, AV.any, AV.any, AV.any, AV.any, AV.any, AV.any, AV.any, AV.any, AV.any, AV.any, AV.any, AV.any, AV.any, AV.any, AV.any, AV.any, AV.any, AV.any, AV.any, AV.any, AV.any, AV.any, AV.any, AV.any, AV.any, AV.any, AV.any, AV.any, AV.any, AV.any, AV.any, AV.any, AV.any, AV.any, AV.any, AV.any, AV.any, AV.any, AV.any, AV.any, AV.any, AV.any, AV.any, AV.any, AV.any, AV.any, AV.any, AV.any, AV.any, AV.any, AV.any, AV.any, AV.any, AV.any, AV.any, AV.any] ([some (Blk.mk false (54 : TypeId) (6 : Nat) true (List.map enE l)), some (Blk.mk false (54 : TypeId) (6 : Nat) true (List.map enE m)), some (Blk.mk true (54 : TypeId) (6 : Nat) true (List.map enE (soE l))), some (Blk.mk true (54 : TypeId) (6 : Nat) true (List.map enE (soE m)))] ++ [some (Blk.mk true (56 : TypeId) (7 : Nat) true [])]) = suSt G l m (0 : Nat) ∧ Nat.le (0 : Nat) (List.length (soE m))) ∧ ∀ (p : Nat), Nat.le p (List.length (soE m)) → (Decidable.decide ((↑p : Int) < (↑(List.length (List.map enE (soE m))) : Int)) = true → ((0 : Int) ≤ (↑p : Int) ∧ (↑p : Int) < (↑(List.length (List.map enE (soE m))) : Int)) ∧ Blk.read Proofs.Try.prog (Blk.mk true (54 : TypeId) (6 : Nat) true (List.map enE (soE m))) (54 : Nat) ((0 : Nat) + Int.toNat (↑p : Int)) (0 : Nat) = some (AV.agg [AV.w64 (at' (soE m) p).1, AV.w64 (at' (soE m) p).2, AV.w64 (at' (soE m) p).3, AV.w64 (at' (soE m) p).4, AV.int IntKind.i64 (at' (soE m) p).5, AV.int IntKind.i64 (at' (soE m) p).6]) ∧ (0 : Nat) + List.length (List.map enE (soE l)) ≤ List.length (List.map enE (soE l)) ∧ List.take (List.length (List.map enE (soE l))) (List.drop (0 : Nat) (List.map enE (soE l))) = List.map enE (deE (List.take (List.length (List.map enE (soE l))) (List.drop (0 : Nat) (List.map enE (soE l))))) ∧ List.length (deE (List.take (List.length (List.map enE (soE l))) (List.drop (0 : Nat) (List.map enE (soE l))))) ≤ (1000000 : Nat) ∧ (Decidable.decide (fiE (deE (List.take (List.length (List.map enE (soE l))) (List.drop (0 : Nat) (List.map enE (soE l))))) (En.mk (at' (soE m) p).1 (at' (soE m) p).2 (at' (soE m) p).3 (at' (soE m) p).4 (at' (soE m) p).5 (at' (soE m) p).6) < (0 : Int)) = true → ((0 : Int) ≤ (↑p : Int) ∧ (↑p : Int) < (↑(List.length (List.map enE (soE m))) : Int)) ∧ Blk.read Proofs.Try.prog (Blk.mk true (54 : TypeId) (6 : Nat) true (List.map enE (soE m))) (54 : Nat) ((0 : Nat) + Int.toNat (↑p : Int)) (0 : Nat) = some (AV.agg [AV.w64 (at' (soE m) p).1, AV.w64 (at' (soE m) p).2, AV.w64 (at' (soE m) p).3, AV.w64 (at' (soE m) p).4, AV.int IntKind.i64 (at' (soE m) p).5, AV.int IntKind.i64 (at' (soE m) p).6]) ∧ ((List.length (suU (soE l) (soE m) p) + (1 : Nat)) * (56 : Nat) ≤ (140737488355328 : Nat) ∧ List.length (suU (soE l) (soE m) p) + (1 : Nat) ≤ (9223372036854775807 : Nat) ∧ (0 : Nat) + (1 : Nat) ≤ List.length [AV.agg [AV.int IntKind.i64 (0 : Int), AV.w64 (at' (soE m) p).1, AV.w64 (at' (soE m) p).2, AV.w64 (at' (soE m) p).3, AV.w64 (at' (soE m) p).4, AV.int IntKind.i64 (at' (soE m) p).5, AV.int IntKind.i64 (at' (soE m) p).6]] ∧ List.length (suU (soE l) (soE m) p) ≤ List.length (G (suU (soE l) (soE m) p))) ∧ List.take (List.length (suU (soE l) (soE m) p)) (G (suU (soE l) (soE m) p)) ++ [AV.agg [AV.int IntKind.i64 (0 : Int), AV.w64 (at' (soE m) p).1, AV.w64 (at' (soE m) p).2, AV.w64 (at' (soE m) p).3, AV.w64 (at' (soE m) p).4, AV.int IntKind.i64 (at' (soE m) p).5, AV.int IntKind.i64 (at' (soE m) p).6]] = G (suU (soE l) (soE m) (p + (1 : Nat))) ∧ Decidable.decide (fiE (deE (List.take (List.length (List.map enE (soE l))) (List.drop (0 : Nat) (List.map enE (soE l))))) (En.mk (at' (soE m) p).1 (at' (soE m) p).2 (at' (soE m) p).3 (at' (soE m) p).4 (at' (soE m) p).5 (at' (soE m) p).6) ≥ (0 : Int)) = false ∧ inRange IntKind.i64 ((↑p : Int) + (1 : Int)) ∧ ∃ (p' : Nat), St.mk [AV.any, AV.any, AV.any, AV.any, AV.any, AV.vsl ((0 : Nat) + (1 : Nat) + (1 : Nat)) (0 : Nat) (List.length (List.map enE (soE l))), AV.vsl ((0 : Nat) + (1 : Nat) + (1 : Nat) + (1 : Nat)) (0 : Nat) (List.length (List.map enE (soE m))), AV.vsl ((0 : Nat) + (1 : Nat) + (1 : Nat) + (1 : Nat) + (1 : Nat)) (0 : Nat) (List.length (suU (soE l) (soE m) p) + (1 : Nat)), AV.int IntKind.i64 ((↑p : Int) + (1 : Int)), AV.any, AV.any, AV.any, AV.any, AV.any, AV.any, AV.any, AV.any, AV.any, AV.any, AV.any, AV.any, AV.any, AV.any, AV.any, AV.any, AV.any, AV.any, AV.any, AV.any, AV.any, AV.any, AV.any, AV.any, AV.any, AV.any, AV.any, AV.any, AV.any, AV.any, AV.any, AV.any, AV.any, AV.any, AV.any, AV.any, AV.any, AV.any, AV.any, AV.any, AV.any, AV.any, AV.any, AV.any, AV.any, AV.any, AV.any, AV.any, AV.any, AV.any, AV.any, AV.any, AV.any, AV.any, AV.any, AV.any, AV.any, AV.any, AV.any, AV.any, AV.any, AV.any, AV.any, AV.any, AV.any, AV.any, AV.any, AV.any, AV.any, AV.any, AV.any, AV.any, AV.any, AV.any, AV.any, AV.any] [some (Blk.mk false (54 : TypeId) (6 : Nat) true (List.map enE l)), some (Blk.mk false (54 : TypeId) (6 : Nat) true (List.map enE m)), some (Blk.mk true (54 : TypeId) (6 : Nat) true (List.map enE (soE l))), some (Blk.mk true (54 : TypeId) (6 : Nat) true (List.map enE (soE m))), some (Blk.mk true (56 : Nat) (7 : Nat) true (G (suU (soE l) (soE m) (p + (1 : Nat)))))] = suSt G l m p' ∧ Nat.le p' (List.length (soE m)) ∧ List.length (soE m) + (1 : Nat) - p' < List.length (soE m) + (1 : Nat) - p) ∧ (Decidable.decide (fiE (deE (List.take (List.length (List.map enE (soE l))) (List.drop (0 : Nat) (List.map enE (soE l))))) (En.mk (at' (soE m) p).1 (at' (soE m) p).2 (at' (soE m) p).3 (at' (soE m) p).4 (at' (soE m) p).5 (at' (soE m) p).6) < (0 : Int)) = false → Decidable.decide (fiE (deE (List.take (List.length (List.map enE (soE l))) (List.drop (0 : Nat) (List.map enE (soE l))))) (En.mk (at' (soE m) p).1 (at' (soE m) p).2 (at' (soE m) p).3 (at' (soE m) p).4 (at' (soE m) p).5 (at' (soE m) p).6) ≥ (0 : Int)) = true ∧ ((0 : Int) ≤ fiE (deE (List.take (List.length (List.map enE (soE l))) (List.drop (0 : Nat) (List.map enE (soE l))))) (En.mk (at' (soE m) p).1 (at' (soE m) p).2 (at' (soE m) p).3 (at' (soE m) p).4 (at' (soE m) p).5 (at' (soE m) p).6) ∧ fiE (deE (List.take (List.length (List.map enE (soE l))) (List.drop (0 : Nat) (List.map enE (soE l))))) (En.mk (at' (soE m) p).1 (at' (soE m) p).2 (at' (soE m) p).3 (at' (soE m) p).4 (at' (soE m) p).5 (at' (soE m) p).6) < (↑(List.length (List.map enE (soE l))) : Int)) ∧ Blk.read Proofs.Try.prog (Blk.mk true (54 : TypeId) (6 : Nat) true (List.map enE (soE l))) (3 : Nat) ((0 : Nat) + Int.toNat (fiE (deE (List.take (List.length (List.map enE (soE l))) (List.drop (0 : Nat) (List.map enE (soE l))))) (En.mk (at' (soE m) p).1 (at' (soE m) p).2 (at' (soE m) p).3 (at' (soE m) p).4 (at' (soE m) p).5 (at' (soE m) p).6))) ((0 : Nat) + (5 : Nat)) = some (AV.int IntKind.i64 (at' (soE l) (Int.toNat (fiE (soE l) (at' (soE m) p)))).6) ∧ ((0 : Int) ≤ (↑p : Int) ∧ (↑p : Int) < (↑(List.length (List.map enE (soE m))) : Int)) ∧ Blk.read Proofs.Try.prog (Blk.mk true (54 : TypeId) (6 : Nat) true (List.map enE (soE m))) (3 : Nat) ((0 : Nat) + Int.toNat (↑p : Int)) ((0 : Nat) + (5 : Nat)) = some (AV.int IntKind.i64 (at' (soE m) p).6) ∧ (((at' (soE l) (Int.toNat (fiE (soE l) (at' (soE m) p)))).6 != (at' (soE m) p).6) = true → ((0 : Int) ≤ (↑p : Int) ∧ (↑p : Int) < (↑(List.length (List.map enE (soE m))) : Int)) ∧ Blk.read Proofs.Try.prog (Blk.mk true (54 : TypeId) (6 : Nat) true (List.map enE (soE m))) (54 : Nat) ((0 : Nat) + Int.toNat (↑p : Int)) (0 : Nat) = some (AV.agg [AV.w64 (at' (soE m) p).1, AV.w64 (at' (soE m) p).2, AV.w64 (at' (soE m) p).3, AV.w64 (at' (soE m) p).4, AV.int IntKind.i64 (at' (soE m) p).5, AV.int IntKind.i64 (at' (soE m) p).6]) ∧ ((List.length (suU (soE l) (soE m) p) + (1 : Nat)) * (56 : Nat) ≤ (140737488355328 : Nat) ∧ List.length (suU (soE l) (soE m) p) + (1 : Nat) ≤ (9223372036854775807 : Nat) ∧ (0 : Nat) + (1 : Nat) ≤ List.length [AV.agg [AV.int IntKind.i64 (1 : Int), AV.w64 (at' (soE m) p).1, AV.w64 (at' (soE m) p).2, AV.w64 (at' (soE m) p).3, AV.w64 (at' (soE m) p).4, AV.int IntKind.i64 (at' (soE m) p).5, AV.int IntKind.i64 (at' (soE m) p).6]] ∧ List.length (suU (soE l) (soE m) p) ≤ List.length (G (suU (soE l) (soE m) p))) ∧ List.take (List.length (suU (soE l) (soE m) p)) (G (suU (soE l) (soE m) p)) ++ [AV.agg [AV.int IntKind.i64 (1 : Int), AV.w64 (at' (soE m) p).1, AV.w64 (at' (soE m) p).2, AV.w64 (at' (soE m) p).3, AV.w64 (at' (soE m) p).4, AV.int IntKind.i64 (at' (soE m) p).5, AV.int IntKind.i64 (at' (soE m) p).6]] = G (suU (soE l) (soE m) (p + (1 : Nat))) ∧ inRange IntKind.i64 ((↑p : Int) + (1 : Int)) ∧ ∃ (p' : Nat), St.mk [AV.any, AV.any, AV.any, AV.any, AV.any, AV.vsl ((0 : Nat) + (1 : Nat) + (1 : Nat)) (0 : Nat) (List.length (List.map enE (soE l))), AV.vsl ((0 : Nat) + (1 : Nat) + (1 : Nat) + (1 : Nat)) (0 : Nat) (List.length (List.map enE (soE m))), AV.vsl ((0 : Nat) + (1 : Nat) + (1 : Nat) + (1 : Nat) + (1 : Nat)) (0 : Nat) (List.length (suU (soE l) (soE m) p) + (1 : Nat)), AV.int IntKind.i64 ((↑p : Int) + (1 : Int)), AV.any, AV.any, AV.any, AV.any, AV.any, AV.any, AV.any, AV.any, AV.any, AV.any, AV.any, AV.any, AV.any, AV.any, AV.any, AV.any, AV.any, AV.any, AV.any, AV.any, AV.any, AV.any, AV.any, AV.any, AV.any, AV.any, AV.any, AV.any, AV.any, AV.any, AV.any, AV.any, AV.any, AV.any, AV.any, AV.any, AV.any, AV.any, AV.any, AV.any, AV.any, AV.any, AV.any, AV.any, AV.any, AV.any, AV.any, AV.any, AV.any, AV.any, AV.any, AV.any, AV.any, AV.any, AV.any, AV.any, AV.any, AV.any, AV.any, AV.any, AV.any, AV.any, AV.any, AV.any, AV.any, AV.any, AV.any, AV.any, AV.any, AV.any, AV.any, AV.any, AV.any, AV.any, AV.any, AV.any] [some (Blk.mk false (54 : TypeId) (6 : Nat) true (List.map enE l)), some (Blk.mk false (54 : TypeId) (6 : Nat) true (List.map enE m)), some (Blk.mk true (54 : TypeId) (6 : Nat) true (List.map enE (soE l))), some (Blk.mk true (54 : TypeId) (6 : Nat) true (List.map enE (soE m))), some (Blk.mk true (56 : Nat) (7 : Nat) true (G (suU (soE l) (soE m) (p + (1 : Nat)))))] = suSt G l m p' ∧ Nat.le p' (List.length (soE m)) ∧ List.length (soE m) + (1 : Nat) - p' < List.length (soE m) + (1 : Nat) - p) ∧ (((at' (soE l) (Int.toNat (fiE (soE l) (at' (soE m) p)))).6 != (at' (soE m) p).6) = false → inRange IntKind.i64 ((↑p : Int) + (1 : Int)) ∧ ∃ (p' : Nat), St.mk [AV.any, AV.any, AV.any, AV.any, AV.any, AV.vsl ((0 : Nat) + (1 : Nat) + (1 : Nat)) (0 : Nat) (List.length (List.map enE (soE l))), AV.vsl ((0 : Nat) + (1 : Nat) + (1 : Nat) + (1 : Nat)) (0 : Nat) (List.length (List.map enE (soE m))), AV.vsl ((0 : Nat) + (1 : Nat) + (1 : Nat) + (1 : Nat) + (1 : Nat)) (0 : Nat) (List.length (suU (soE l) (soE m) p)), AV.int IntKind.i64 ((↑p : Int) + (1 : Int)), AV.any, AV.any, AV.any, AV.any, AV.any, AV.any, AV.any, AV.any, AV.any, AV.any, AV.any, AV.any, AV.any, AV.any, AV.any, AV.any, AV.any, AV.any, AV.any, AV.any, AV.any, AV.any, AV.any, AV.any, AV.any, AV.any, AV.any, AV.any, AV.any, AV.any, AV.any, AV.any, AV.any, AV.any, AV.any, AV.any, AV.any, AV.any, AV.any, AV.any, AV.any, AV.any, AV.any, AV.any, AV.any, AV.any, AV.any, AV.any, AV.any, AV.any, AV.any, AV.any, AV.any, AV.any, AV.any, AV.any, AV.any, AV.any, AV.any, AV.any, AV.any, AV.any, AV.any, AV.any, AV.any, AV.any, AV.any, AV.any, AV.any, AV.any, AV.any, AV.any, AV.any, AV.any, AV.any, AV.any] [some (Blk.mk false (54 : TypeId) (6 : Nat) true (List.map enE l)), some (Blk.mk false (54 : TypeId) (6 : Nat) true (List.map enE m)), some (Blk.mk true (54 : TypeId) (6 : Nat) true (List.map enE (soE l))), some (Blk.mk true (54 : TypeId) (6 : Nat) true (List.map enE (soE m))), some (Blk.mk true (56 : TypeId) (7 : Nat) true (G (suU (soE l) (soE m) p)))] = suSt G l m p' ∧ Nat.le p' (List.length (soE m)) ∧ List.length (soE m) + (1 : Nat) - p' < List.length (soE m) + (1 : Nat) - p))) ∧ (Decidable.decide ((↑p : Int) < (↑(List.length (List.map enE (soE m))) : Int)) = false → inRange IntKind.i64 ((↑(List.length (List.map enE (soE l))) : Int) - (1 : Int)) ∧ (St.mk [AV.any, AV.any, AV.any, AV.any, AV.any, AV.vsl ((0 : Nat) + (1 : Nat) + (1 : Nat)) (0 : Nat) (List.length (List.map enE (soE l))), AV.vsl ((0 : Nat) + (1 : Nat) + (1 : Nat) + (1 : Nat)) (0 : Nat) (List.length (List.map enE (soE m))), AV.vsl ((0 : Nat) + (1 : Nat) + (1 : Nat) + (1 : Nat) + (1 : Nat)) (0 : Nat) (List.length (suU (soE l) (soE m) p)), AV.any, AV.any, AV.int IntKind.i64 ((↑(List.length (List.map enE (soE l))) : Int) - (1 : Int)), AV.any, AV.any, AV.any, AV.any, AV.any, AV.any, AV.any, AV.any, AV.any, AV.any, AV.any, AV.any, AV.any, AV.any, AV.any, AV.any, AV.any, AV.any, AV.any, AV.any, AV.any, AV.any, AV.any, AV.any, AV.any, AV.any, AV.any, AV.any, AV.any, AV.any, AV.any, AV.any, AV.any, AV.any, AV.any, AV.any, AV.any, AV.any, AV.any, AV.any, AV.any, AV.any, AV.any, AV.any, AV.any, AV.any, AV.any, AV.any, AV.any, AV.any, AV.any, AV.any, AV.any, AV.any, AV.any, AV.any, AV.any, AV.any, AV.any, AV.any, AV.any, AV.any, AV.any, AV.any, AV.any, AV.any, AV.any, AV.any, AV.any, AV.any, AV.any, AV.any, AV.any, AV.any] [some (Blk.mk false (54 : TypeId) (6 : Nat) true (List.map enE l)), some (Blk.mk false (54 : TypeId) (6 : Nat) true (List.map enE m)), some (Blk.mk true (54 : TypeId) (6 : Nat) true (List.map enE (soE l))), some (Blk.mk true (54 : TypeId) (6 : Nat) true (List.map enE (soE m))), some (Blk.mk true (56 : TypeId) (7 : Nat) true (G (suU (soE l) (soE m) p)))] = svSt G l m (0 : Nat) ∧ Nat.le (0 : Nat) (List.length (soE l))) ∧ ∀ (p : Nat), Nat.le p (List.length (soE l)) → (Decidable.decide ((↑(List.length (List.map enE (soE l))) : Int) - (1 : Int) - (↑p : Int) ≥ (0 : Int)) = true → ((0 : Int) ≤ (↑(List.length (List.map enE (soE l))) : Int) - (1 : Int) - (↑p : Int) ∧ (↑(List.length (List.map enE (soE l))) : Int) - (1 : Int) - (↑p : Int) < (↑(List.length (List.map enE (soE l))) : Int)) ∧ Blk.read Proofs.Try.prog (Blk.mk true (54 : TypeId) (6 : Nat) true (List.map enE (soE l))) (54 : Nat) ((0 : Nat) + Int.toNat ((↑(List.length (List.map enE (soE l))) : Int) - (1 : Int) - (↑p : Int))) (0 : Nat) = some (AV.agg [AV.w64 (svX l p).1, AV.w64 (svX l p).2, AV.w64 (svX l p).3, AV.w64 (svX l p).4, AV.int IntKind.i64 (svX l p).5, AV.int IntKind.i64 (svX l p).6]) ∧ (0 : Nat) + List.length (List.map enE (soE m)) ≤ List.length (List.map enE (soE m)) ∧ List.take (List.length (List.map enE (soE m))) (List.drop (0 : Nat) (List.map enE (soE m))) = List.map enE (deE (List.take (List.length (List.map enE (soE m))) (List.drop (0 : Nat) (List.map enE (soE m))))) ∧ List.length (deE (List.take (List.length (List.map enE (soE m))) (List.drop (0 : Nat) (List.map enE (soE m))))) ≤ (1000000 : Nat) ∧ (Decidable.decide (fiE (deE (List.take (List.length (List.map enE (soE m))) (List.drop (0 : Nat) (List.map enE (soE m))))) (En.mk (svX l p).1 (svX l p).2 (svX l p).3 (svX l p).4 (svX l p).5 (svX l p).6) < (0 : Int)) = true → ((0 : Int) ≤ (↑(List.length (List.map enE (soE l))) : Int) - (1 : Int) - (↑p : Int) ∧ (↑(List.length (List.map enE (soE l))) : Int) - (1 : Int) - (↑p : Int) < (↑(List.length (List.map enE (soE l))) : Int)) ∧ Blk.read Proofs.Try.prog (Blk.mk true (54 : TypeId) (6 : Nat) true (List.map enE (soE l))) (54 : Nat) ((0 : Nat) + Int.toNat ((↑(List.length (List.map enE (soE l))) : Int) - (1 : Int) - (↑p : Int))) (0 : Nat) = some (AV.agg [AV.w64 (svX l p).1, AV.w64 (svX l p).2, AV.w64 (svX l p).3, AV.w64 (svX l p).4, AV.int IntKind.i64 (svX l p).5, AV.int IntKind.i64 (svX l p).6]) ∧ ((List.length (suV (soE l) (soE m) p) + (1 : Nat)) * (56 : Nat) ≤ (140737488355328 : Nat) ∧ List.length (suV (soE l) (soE m) p) + (1 : Nat) ≤ (9223372036854775807 : Nat) ∧ (0 : Nat) + (1 : Nat) ≤ List.length [AV.agg [AV.int IntKind.i64 (2 : Int), AV.w64 (svX l p).1, AV.w64 (svX l p).2, AV.w64 (svX l p).3, AV.w64 (svX l p).4, AV.int IntKind.i64 (svX l p).5, AV.int IntKind.i64 (svX l p).6]] ∧ List.length (suV (soE l) (soE m) p) ≤ List.length (G (suV (soE l) (soE m) p))) ∧ List.take (List.length (suV (soE l) (soE m) p)) (G (suV (soE l) (soE m) p)) ++ [AV.agg [AV.int IntKind.i64 (2 : Int), AV.w64 (svX l p).1, AV.w64 (svX l p).2, AV.w64 (svX l p).3, AV.w64 (svX l p).4, AV.int IntKind.i64 (svX l p).5, AV.int IntKind.i64 (svX l p).6]] = G (suV (soE l) (soE m) (p + (1 : Nat))) ∧ inRange IntKind.i64 ((↑(List.length (List.map enE (soE l))) : Int) - (1 : Int) - (↑p : Int) - (1 : Int)) ∧ ∃ (p' : Nat), St.mk [AV.any, AV.any, AV.any, AV.any, AV.any, AV.vsl ((0 : Nat) + (1 : Nat) + (1 : Nat)) (0 : Nat) (List.length (List.map enE (soE l))), AV.vsl ((0 : Nat) + (1 : Nat) + (1 : Nat) + (1 : Nat)) (0 : Nat) (List.length (List.map enE (soE m))), AV.vsl ((0 : Nat) + (1 : Nat) + (1 : Nat) + (1 : Nat) + (1 : Nat)) (0 : Nat) (List.length (suV (soE l) (soE m) p) + (1 : Nat)), AV.any, AV.any, AV.int IntKind.i64 ((↑(List.length (List.map enE (soE l))) : Int) - (1 : Int) - (↑p : Int) - (1 : Int)), AV.any, AV.any, AV.any, AV.any, AV.any, AV.any, AV.any, AV.any, AV.any, AV.any, AV.any, AV.any, AV.any, AV.any, AV.any, AV.any, AV.any, AV.any, AV.any, AV.any, AV.any, AV.any, AV.any, AV.any, AV.any, AV.any, AV.any, AV.any, AV.any, AV.any, AV.any, AV.any, AV.any, AV.any, AV.any, AV.any, AV.any, AV.any, AV.any, AV.any, AV.any, AV.any, AV.any, AV.any, AV.any, AV.any, AV.any, AV.any, AV.any, AV.any, AV.any, AV.any, AV.any, AV.any, AV.any, AV.any, AV.any, AV.any, AV.any, AV.any, AV.any, AV.any, AV.any, AV.any, AV.any, AV.any, AV.any, AV.any, AV.any, AV.any, AV.any, AV.any, AV.any, AV.any] [some (Blk.mk false (54 : TypeId) (6 : Nat) true (List.map enE l)), some (Blk.mk false (54 : TypeId) (6 : Nat) true (List.map enE m)), some (Blk.mk true (54 : TypeId) (6 : Nat) true (List.map enE (soE l))), some (Blk.mk true (54 : TypeId) (6 : Nat) true (List.map enE (soE m))), some (Blk.mk true (56 : Nat) (7 : Nat) true (G (suV (soE l) (soE m) (p + (1 : Nat)))))] = svSt G l m p' ∧ Nat.le p' (List.length (soE l)) ∧ List.length (soE l) + (1 : Nat) - p' < List.length (soE l) + (1 : Nat) - p) ∧ (Decidable.decide (fiE (deE (List.take (List.length (List.map enE (soE m))) (List.drop (0 : Nat) (List.map enE (soE m))))) (En.mk (svX l p).1 (svX l p).2 (svX l p).3 (svX l p).4 (svX l p).5 (svX l p).6) < (0 : Int)) = false → inRange IntKind.i64 ((↑(List.length (List.map enE (soE l))) : Int) - (1 : Int) - (↑p : Int) - (1 : Int)) ∧ ∃ (p' : Nat), St.mk [AV.any, AV.any, AV.any, AV.any, AV.any, AV.vsl ((0 : Nat) + (1 : Nat) + (1 : Nat)) (0 : Nat) (List.length (List.map enE (soE l))), AV.vsl ((0 : Nat) + (1 : Nat) + (1 : Nat) + (1 : Nat)) (0 : Nat) (List.length (List.map enE (soE m))), AV.vsl ((0 : Nat) + (1 : Nat) + (1 : Nat) + (1 : Nat) + (1 : Nat)) (0 : Nat) (List.length (suV (soE l) (soE m) p)), AV.any, AV.any, AV.int IntKind.i64 ((↑(List.length (List.map enE (soE l))) : Int) - (1 : Int) - (↑p : Int) - (1 : Int)), AV.any, AV.any, AV.any, AV.any, AV.any, AV.any, AV.any, AV.any, AV.any, AV.any, AV.any, AV.any, AV.any, AV.any, AV.any, AV.any, AV.any, AV.any, AV.any, AV.any, AV.any, AV.any, AV.any, AV.any, AV.any, AV.any, AV.any, AV.any, AV.any, AV.any, AV.any, AV.any, AV.any, AV.any, AV.any, AV.any, AV.any, AV.any, AV.any, AV.any, AV.any, AV.any, AV.any, AV.any, AV.any, AV.any, AV.any, AV.any, AV.any, AV.any, AV.any, AV.any, AV.any, AV.any, AV.any, AV.any, AV.any, AV.any, AV.any, AV.any, AV.any, AV.any, AV.any, AV.any, AV.any, AV.any, AV.any, AV.any, AV.any, AV.any, AV.any, AV.any, AV.any, AV.any] [some (Blk.mk false (54 : TypeId) (6 : Nat) true (List.map enE l)), some (Blk.mk false (54 : TypeId) (6 : Nat) true (List.map enE m)), some (Blk.mk true (54 : TypeId) (6 : Nat) true (List.map enE (soE l))), some (Blk.mk true (54 : TypeId) (6 : Nat) true (List.map enE (soE m))), some (Blk.mk true (56 : TypeId) (7 : Nat) true (G (suV (soE l) (soE m) p)))] = svSt G l m p' ∧ Nat.le p' (List.length (soE l)) ∧ List.length (soE l) + (1 : Nat) - p' < List.length (soE l) + (1 : Nat) - p)) ∧ (Decidable.decide ((↑(List.length (List.map enE (soE l))) : Int) - (1 : Int) - (↑p : Int) ≥ (0 : Int)) = false → List.length (suV (soE l) (soE m) p) = List.length es ∧ some (Blk.mk true (56 : TypeId) (7 : Nat) true (G (suV (soE l) (soE m) p))) = some (Blk.mk true (56 : TypeId) (7 : Nat) true es)))) := by kernel_rfl

theorem rsteps11Cs_ok : ∀ e ∈ rsteps11Cs, SpecOK Try.prog e.1 e.2 := by
  intro e he
  simp only [rsteps11Cs, List.mem_cons, List.not_mem_nil, or_false] at he
  rcases he with rfl | rfl | rfl
  · exact ronce11_ok
  · exact rsort_ok
  · exact rfind11_ok

theorem rsteps11_ok : SpecOK Try.prog 25 (genSpec [pRefE, pRefE] rsteps11F) := by
  refine genSpec_ok (run_ok (l := rsteps11Cs) rsteps11Cs_ok mixed noNG) fun l R hF => ?_
  unfold rsteps11F at hF
  split at hF
  · rename_i r_l r_m
    obtain ⟨hr_l, hl, hF⟩ := hF
    generalize deE r_l = l at hr_l hl hF
    subst hr_l
    obtain ⟨hr_m, hm, hF⟩ := hF
    generalize deE r_m = m at hr_m hm hF
    subst hr_m
    refine ⟨_, hF, trivial, (suH (List.map spE) l m), ?_⟩
    show run rsteps11Cs Try.prog _ [.vsl 0 0 (l.map enE).length, .vsl 1 0 (m.map enE).length] [some ⟨false, (pRefE.getD (0, 0)).1, (pRefE.getD (0, 0)).2, true, (l.map enE)⟩, some ⟨false, (pRefE.getD (0, 0)).1, (pRefE.getD (0, 0)).2, true, (m.map enE)⟩] _ _
    rw [rsteps11_run]
    have e1 : srE (onE l) = soE l := rfl
    have e2 : srE (onE m) = soE m := rfl
    have ol : (onE l).length ≤ l.length := (onE_spec l).2.1.length_le
    have om : (onE m).length ≤ m.length := (onE_spec m).2.1.length_le
    have sl : (soE l).length = (onE l).length := srE_length _
    have sm : (soE m).length = (onE m).length := srE_length _
    have slm : ((soE l).map enE).length = (soE l).length := List.length_map _
    have smm : ((soE m).map enE).length = (soE m).length := List.length_map _
    simp only [whole_row, deE_map, e1, e2, zLe, true_and, and_true, eq_true hl, eq_true hm, eq_true (show (onE l).length ≤ 1000000 by omega), eq_true (show (onE m).length ≤ 1000000 by omega), eq_true (show (soE l).length ≤ 1000000 by omega), eq_true (show (soE m).length ≤ 1000000 by omega)]
    refine ⟨⟨rfl, Nat.zero_le _⟩, ?_⟩
    intro p (hp0 : p ≤ (soE m).length)
    have i1 : inRange .i64 ((p : Int) + 1) := inR (by omega) (by omega)
    have hu := suU_le (soE l) (soE m) p
    have hum : ((suU (soE l) (soE m) p).map spE).length = (suU (soE l) (soE m) p).length := List.length_map _
    refine ⟨fun hlt => ?_, fun hge => ?_⟩
    · have hp : p < (soE m).length := by have := of_decide_eq_true hlt; omega
      have hx := suU_next (a := soE l) hp
      rw [stU_fi] at hx
      have stay : suU (soE l) (soE m) (p + 1) = suU (soE l) (soE m) p → inRange .i64 ((p : Int) + 1) ∧ ∃ p', (⟨[.any, .any, .any, .any, .any, .vsl 2 0 ((soE l).map enE).length, .vsl 3 0 ((soE m).map enE).length, .vsl 4 0 (suU (soE l) (soE m) p).length, .int .i64 ((p : Int) + 1), .any, .any, .any, .any, .any, .any, .any, .any, .any, .any, .any, .any, .any, .any, .any, .any, .any, .any, .any, .any, .any, .any, .any, .any, .any, .any, .any, .any, .any, .any, .any, .any, .any, .any, .any, .any, .any, .any, .any, .any, .any, .any, .any, .any, .any, .any, .any, .any, .any, .any, .any, .any, .any, .any, .any, .any, .any, .any, .any, .any, .any, .any, .any, .any, .any, .any, .any, .any, .any, .any, .any, .any, .any, .any, .any, .any], stRows (List.map spE) l m (suU (soE l) (soE m) p)⟩ : St) = suSt (List.map spE) l m p' ∧ Nat.le p' (soE m).length ∧ (soE m).length + 1 - p' < (soE m).length + 1 - p := fun e => by
        refine ⟨i1, p + 1, ?_, hp, by omega⟩
        unfold suSt
        rw [e]; rfl
      have put : ∀ s : Sp, suU (soE l) (soE m) (p + 1) = suU (soE l) (soE m) p ++ [s] → (((suU (soE l) (soE m) p).length + 1) * 56 ≤ 140737488355328 ∧ (suU (soE l) (soE m) p).length + 1 ≤ 9223372036854775807 ∧ 0 + 1 ≤ List.length [spE s] ∧ (suU (soE l) (soE m) p).length ≤ ((suU (soE l) (soE m) p).map spE).length) ∧ List.take (suU (soE l) (soE m) p).length ((suU (soE l) (soE m) p).map spE) ++ [spE s] = (suU (soE l) (soE m) (p + 1)).map spE ∧
          ∃ p', (⟨[.any, .any, .any, .any, .any, .vsl 2 0 ((soE l).map enE).length, .vsl 3 0 ((soE m).map enE).length, .vsl 4 0 ((suU (soE l) (soE m) p).length + 1), .int .i64 ((p : Int) + 1), .any, .any, .any, .any, .any, .any, .any, .any, .any, .any, .any, .any, .any, .any, .any, .any, .any, .any, .any, .any, .any, .any, .any, .any, .any, .any, .any, .any, .any, .any, .any, .any, .any, .any, .any, .any, .any, .any, .any, .any, .any, .any, .any, .any, .any, .any, .any, .any, .any, .any, .any, .any, .any, .any, .any, .any, .any, .any, .any, .any, .any, .any, .any, .any, .any, .any, .any, .any, .any, .any, .any, .any, .any, .any, .any, .any], stRows (List.map spE) l m (suU (soE l) (soE m) (p + 1))⟩ : St) = suSt (List.map spE) l m p' ∧ Nat.le p' (soE m).length ∧ (soE m).length + 1 - p' < (soE m).length + 1 - p := fun s e => by
        have hl1 : (suU (soE l) (soE m) (p + 1)).length = (suU (soE l) (soE m) p).length + 1 := by rw [e, List.length_append]; rfl
        refine ⟨⟨by omega, by omega, Nat.le_refl _, by omega⟩, ?_, p + 1, ?_, hp, by omega⟩
        · rw [List.take_of_length_le (by omega), e, List.map_append]; rfl
        · unfold suSt
          rw [hl1]; rfl
      refine ⟨by omega, read_rows (by omega) (by omega) (ref_whole _), fun hf => ?_, fun hf => ?_⟩
      · have hf : fiE (soE l) (at' (soE m) p) < 0 := of_decide_eq_true hf
        rw [if_pos hf] at hx
        obtain ⟨q1, q2, q3⟩ := put ⟨0, at' (soE m) p⟩ hx
        exact ⟨by omega, read_rows (by omega) (by omega) (ref_whole _), q1, q2, decide_eq_false (by show ¬ fiE (soE l) (at' (soE m) p) ≥ 0; omega), i1, q3⟩
      · have hf : ¬ fiE (soE l) (at' (soE m) p) < 0 := of_decide_eq_false hf
        rw [if_neg hf] at hx
        have hb : fiE (soE l) (at' (soE m) p) < ((soE l).length : Int) := by
          rcases fiE_spec (soE l) (at' (soE m) p) with ⟨h, _⟩ | ⟨i, h, hi, _⟩ <;> omega
        have B : 0 ≤ fiE (soE l) (at' (soE m) p) ∧ fiE (soE l) (at' (soE m) p) < (((soE l).map enE).length : Int) := by omega
        refine ⟨decide_eq_true (by show fiE (soE l) (at' (soE m) p) ≥ 0; omega), B, read_rows B.1 B.2 (ref_act _), by omega, read_rows (by omega) (by omega) (ref_act _), fun hne => ?_, fun he => stay ?_⟩
        · have hne : ¬ (at' (soE l) (fiE (soE l) (at' (soE m) p)).toNat).act = (at' (soE m) p).act := by simpa using hne
          rw [if_neg hne] at hx
          obtain ⟨q1, q2, q3⟩ := put ⟨1, at' (soE m) p⟩ hx
          exact ⟨by omega, read_rows (by omega) (by omega) (ref_whole _), q1, q2, i1, q3⟩
        · have he : (at' (soE l) (fiE (soE l) (at' (soE m) p)).toNat).act = (at' (soE m) p).act := by simpa using he
          rw [if_pos he, List.append_nil] at hx
          exact hx
    · have hp : p = (soE m).length := by have := of_decide_eq_false hge; omega
      subst hp
      have ez : suU (soE l) (soE m) (soE m).length = suV (soE l) (soE m) 0 := by unfold suU suV; rw [List.take_length, List.take_zero, List.flatMap_nil, List.append_nil]
      refine ⟨inR (by omega) (by omega), ⟨by unfold svSt; rw [ez, Int.natCast_zero, Int.sub_zero]; rfl, Nat.zero_le _⟩, ?_⟩
      intro p (hp0 : p ≤ (soE l).length)
      have hv := suV_le (soE l) (soE m) p
      have hvm : ((suV (soE l) (soE m) p).map spE).length = (suV (soE l) (soE m) p).length := List.length_map _
      refine ⟨fun hlt => ?_, fun hge => ?_⟩
      · have hp : p < (soE l).length := by have := of_decide_eq_true hlt; omega
        have i2 : inRange .i64 ((((soE l).map enE).length : Int) - 1 - p - 1) := inR (by omega) (by omega)
        have ej : ((((soE l).map enE).length : Int) - 1 - p).toNat = (soE l).length - 1 - p := by omega
        have en : (((soE l).map enE).length : Int) - 1 - ((p + 1 : Nat) : Int) = (((soE l).map enE).length : Int) - 1 - p - 1 := by omega
        have B : 0 ≤ (((soE l).map enE).length : Int) - 1 - p ∧ (((soE l).map enE).length : Int) - 1 - p < (((soE l).map enE).length : Int) := by omega
        have rd : (Blk.mk true 54 6 true ((soE l).map enE)).read Try.prog 54 (0 + ((((soE l).map enE).length : Int) - 1 - p).toNat) 0 = some (enE (svX l p)) := read_rows B.1 B.2 (by rw [ej]; exact ref_whole _)
        have hx := suV_next (b := soE m) hp
        rw [stV_fi] at hx
        refine ⟨B, rd, fun hf => ?_, fun hf => ⟨i2, p + 1, ?_, hp, by omega⟩⟩
        · have hf : fiE (soE m) (at' (soE l) ((soE l).length - 1 - p)) < 0 := of_decide_eq_true hf
          rw [if_pos hf] at hx
          have hl1 : (suV (soE l) (soE m) (p + 1)).length = (suV (soE l) (soE m) p).length + 1 := by rw [hx, List.length_append]; rfl
          refine ⟨B, rd, ⟨by omega, by omega, Nat.le_refl _, by omega⟩, ?_, i2, p + 1, ?_, hp, by omega⟩
          · rw [List.take_of_length_le (by omega), hx, List.map_append]; rfl
          · unfold svSt
            rw [hl1, en]; rfl
        · have hf : ¬ fiE (soE m) (at' (soE l) ((soE l).length - 1 - p)) < 0 := of_decide_eq_false hf
          rw [if_neg hf, List.append_nil] at hx
          unfold svSt
          rw [hx, en]; rfl
      · have hp : p = (soE l).length := by have := of_decide_eq_false hge; omega
        subst hp
        have ee : suV (soE l) (soE m) (soE l).length = stE l m := by
          unfold suV stE stS soE
          rw [← List.length_reverse, List.take_length]
        rw [ee]
        exact ⟨(List.length_map _).symm, rfl⟩
  · exact hF.elim


end Go.Proofs.Ytnjbgbdcbejciaa.L1
end

section
/-
  Layer 11: what the contracts of the program's calls say; the law's same; what the document fixes of two rows.
-/
namespace Go.Proofs.Ytnjbgbdcbejciaa.L1
open Go.Sx Go.Sx.M

def gonce11F : List Arg → (Res → Prop) → Prop
  | [.row r_l], R => r_l = (deE r_l).map enE ∧ (deE r_l).length ≤ 1000000 ∧ R (.vrow 42 6 ((onE (deE r_l)).map enE))
  | _, _ => False

def gsteps11F : List Arg → (Res → Prop) → Prop
  | [.row r_l, .row r_m], R => r_l = (deE r_l).map enE ∧ (deE r_l).length ≤ 1000000 ∧ r_m = (deE r_m).map enE ∧ (deE r_m).length ≤ 1000000 ∧ R (.vrow 59 7 ((stE (deE r_l) (deE r_m)).map spE))
  | _, _ => False

def gdo11F : List Arg → (Res → Prop) → Prop
  | [.row r_l, .v (.agg [.int .i64 i, .w64 v, .w64 w, .w64 m, .w64 n, .int .i64 k, .int .i64 j])], R => r_l = (deE r_l).map enE ∧ (deE r_l).length ≤ 1000000 ∧ R (.vrow 42 6 ((doE (deE r_l) ⟨i, v, w, m, n, k, j⟩).map enE))
  | _, _ => False

def gcount11F : List Arg → (Res → Prop) → Prop
  | [.row r_l], R => r_l = (deSp r_l).map spE ∧ (deSp r_l).length ≤ 1000000 ∧ R (.v (.agg [.int .i64 (ctE 0 (deSp r_l)), .int .i64 (ctE 1 (deSp r_l)), .int .i64 (ctE 2 (deSp r_l))]))
  | _, _ => False

def sjSt (l m : List En) (p : Nat) : St :=
  ⟨[.vsl 0 0 (l.map enE).length, .vsl 1 0 (m.map enE).length, .any, .any, .any, .any, .any, .any, .any, .any, .any, .any, .int .i64 (l.map enE).length, .int .i64 p, .any, .any, .any, .any, .any, .any, .any, .any, .any, .any, .any, .any, .any], [some ⟨false, 42, 6, true, l.map enE⟩, some ⟨false, 54, 6, true, m.map enE⟩]⟩
def sjM0 : Modes := ⟨[1, 1, 0, 0, 0, 0, 0, 0, 0, 0, 0, 0, 1, 2, 0, 0, 0, 0, 0, 0, 0, 0, 0, 0, 0, 0, 0], [], [], [], []⟩
def sjM : Modes := ⟨[1, 1, 0, 0, 0, 0, 0, 0, 0, 0, 0, 0, 1, 1, 0, 0, 0, 0, 0, 0, 0, 0, 0, 0, 0, 0, 0], [], [], [], []⟩
def sjM' : Modes := ⟨[0, 0, 0, 0, 2, 0, 0, 0, 0, 0, 0, 0, 0, 0, 0, 0, 0, 0, 0, 0, 0, 0, 0, 0, 0, 0, 0], [], [], [], []⟩
def sjI (l m : List En) (p : Nat) : Prop := p ≤ l.length ∧ ∀ i, i < p → at' l i = at' m i
def sjH (l m : List En) : List Hint := [.fork [] [.linv _ 0 (sjSt l m) (sjI l m) (fun p => l.length + 1 - p) sjM0 sjM sjM' (fun _ => []) fun p =>
  [.fork [.dy, .cell (enE (at' l p)), .dy, .cell (enE (at' m p)), .fork [] [.nw]] []]]]

def same11F : List Arg → (Res → Prop) → Prop
  | [.row r_l, .row r_m], R => r_l = (deE r_l).map enE ∧ (deE r_l).length ≤ 9223372036854775807 ∧ r_m = (deE r_m).map enE ∧ (deE r_m).length ≤ 9223372036854775807 ∧ R (.v (.bool (decide ((deE r_l) = (deE r_m)))))
  | _, _ => False

noncomputable def same11Cs : List (FuncId × Sx.Spec) := [(46, genSpec [none] one5F)]

theorem same11_run (l m : List En) (r : AV) : run same11Cs Try.prog 28 [.vsl 0 0 (l.map enE).length, .vsl 1 0 (m.map enE).length] [some ⟨false, (pEn.getD (0, 0)).1, (pEn.getD (0, 0)).2, true, (l.map enE)⟩, some ⟨false, (pRefE.getD (0, 0)).1, (pRefE.getD (0, 0)).2, true, (m.map enE)⟩] (sjH l m) (yields (.v r)) =
    ((((↑(List.length (List.map enE l)) : Int) != (↑(List.length (List.map enE m)) : Int)) = true → AV.bool false = r) ∧ (((↑(List.length (List.map enE l)) : Int) != (↑(List.length (List.map enE m)) : Int)) = false → (St.mk [AV.vsl (0 : Nat) (0 : Nat) (List.length (List.map enE l)), AV.vsl ((0 : Nat) + (1 : Nat)) (0 : Nat) (List.length (List.map enE m)), AV.any, AV.any, AV.any, AV.any, AV.any, AV.any, AV.any, AV.any, AV.any, AV.any, AV.int IntKind.i64 (↑(List.length (List.map enE l)) : Int), AV.int IntKind.i64 (0 : Int), AV.any, AV.any, AV.any, AV.any, AV.any, AV.any, AV.any, AV.any, AV.any, AV.any, AV.any, AV.any, AV.any] [some (Blk.mk false (42 : TypeId) (6 : Nat) true (List.map enE l)), some (Blk.mk false (54 : TypeId) (6 : Nat) true (List.map enE m))] = sjSt l m (0 : Nat) ∧ sjI l m (0 : Nat)) ∧ ∀ (p : Nat), sjI l m p → (Decidable.decide ((↑p : Int) < (↑(List.length (List.map enE l)) : Int)) = true → ((0 : Int) ≤ (↑p : Int) ∧ (↑p : Int) < (↑(List.length (List.map enE l)) : Int)) ∧ Blk.read Proofs.Try.prog (Blk.mk false (42 : TypeId) (6 : Nat) true (List.map enE l)) (42 : Nat) ((0 : Nat) + Int.toNat (↑p : Int)) (0 : Nat) = some (AV.agg [AV.w64 (at' l p).1, AV.w64 (at' l p).2, AV.w64 (at' l p).3, AV.w64 (at' l p).4, AV.int IntKind.i64 (at' l p).5, AV.int IntKind.i64 (at' l p).6]) ∧ ((0 : Int) ≤ (↑p : Int) ∧ (↑p : Int) < (↑(List.length (List.map enE m)) : Int)) ∧ Blk.read Proofs.Try.prog (Blk.mk false (54 : TypeId) (6 : Nat) true (List.map enE m)) (54 : Nat) ((0 : Nat) + Int.toNat (↑p : Int)) (0 : Nat) = some (AV.agg [AV.w64 (at' m p).1, AV.w64 (at' m p).2, AV.w64 (at' m p).3, AV.w64 (at' m p).4, AV.int IntKind.i64 (at' m p).5, AV.int IntKind.i64 (at' m p).6]) ∧ ((!((at' l p).1 == (at' m p).1 && (at' l p).2 == (at' m p).2 && ((at' l p).3 == (at' m p).3 && (at' l p).4 == (at' m p).4) && ((at' l p).5 == (at' m p).5 && (at' l p).6 == (at' m p).6))) = true → AV.bool false = r) ∧ ((!((at' l p).1 == (at' m p).1 && (at' l p).2 == (at' m p).2 && ((at' l p).3 == (at' m p).3 && (at' l p).4 == (at' m p).4) && ((at' l p).5 == (at' m p).5 && (at' l p).6 == (at' m p).6))) = false → inRange IntKind.i64 ((↑p : Int) + (1 : Int)) ∧ ∃ (p' : Nat), St.mk [AV.vsl (0 : Nat) (0 : Nat) (List.length (List.map enE l)), AV.vsl ((0 : Nat) + (1 : Nat)) (0 : Nat) (List.length (List.map enE m)), AV.any, AV.any, AV.any, AV.any, AV.any, AV.any, AV.any, AV.any, AV.any, AV.any, AV.int IntKind.i64 (↑(List.length (List.map enE l)) : Int), AV.int IntKind.i64 ((↑p : Int) + (1 : Int)), AV.any, AV.any, AV.any, AV.any, AV.any, AV.any, AV.any, AV.any, AV.any, AV.any, AV.any, AV.any, AV.any] [some (Blk.mk false (42 : TypeId) (6 : Nat) true (List.map enE l)), some (Blk.mk false (54 : TypeId) (6 : Nat) true (List.map enE m))] = sjSt l m p' ∧ sjI l m p' ∧ List.length l + (1 : Nat) - p' < List.length l + (1 : Nat) - p)) ∧ (Decidable.decide ((↑p : Int) < (↑(List.length (List.map enE l)) : Int)) = false → AV.bool true = r))) := by kernel_rfl

theorem same11Cs_ok : ∀ e ∈ same11Cs, SpecOK Try.prog e.1 e.2 := by
  intro e he
  simp only [same11Cs, List.mem_cons, List.not_mem_nil, or_false] at he
  rcases he with rfl
  · exact one5_ok

theorem same11_ok : SpecOK Try.prog 28 (genSpec [pEn, pRefE] same11F) := by
  refine genSpec_ok (run_ok (l := same11Cs) same11Cs_ok mixed noNG) fun l R hF => ?_
  unfold same11F at hF
  split at hF
  · rename_i r_l r_m
    obtain ⟨hr_l, hl, hF⟩ := hF
    generalize deE r_l = l at hr_l hl hF
    subst hr_l
    obtain ⟨hr_m, hm, hF⟩ := hF
    generalize deE r_m = m at hr_m hm hF
    subst hr_m
    refine ⟨_, hF, rfl, (sjH l m), ?_⟩
    show run same11Cs Try.prog _ [.vsl 0 0 (l.map enE).length, .vsl 1 0 (m.map enE).length] [some ⟨false, (pEn.getD (0, 0)).1, (pEn.getD (0, 0)).2, true, (l.map enE)⟩, some ⟨false, (pRefE.getD (0, 0)).1, (pRefE.getD (0, 0)).2, true, (m.map enE)⟩] _ _
    rw [same11_run]
    refine ⟨fun hne => ?_, fun he => ⟨⟨rfl, Nat.zero_le _, fun i hi => by omega⟩, ?_⟩⟩
    · have hne : l ≠ m := fun e => by subst e; simp at hne
      rw [decide_eq_false hne]
    · have he : l.length = m.length := by have : ((l.length : Int)) = (m.length : Int) := by simpa using he
                                          omega
      rintro p ⟨h1, h2⟩
      refine ⟨fun hlt => ?_, fun hge => ?_⟩
      · have hp : p < l.length := by simp only [decide_eq_true_eq, List.length_map] at hlt; omega
        have B : 0 ≤ (p : Int) ∧ (p : Int) < ((l.map enE).length : Int) := by rw [List.length_map]; omega
        have B' : 0 ≤ (p : Int) ∧ (p : Int) < ((m.map enE).length : Int) := by rw [List.length_map]; omega
        refine ⟨B, read_rows B.1 B.2 (en_whole _), B', read_rows B'.1 B'.2 (ref_whole _), fun hn => ?_, fun hn => ?_⟩
        · rw [eqEn] at hn
          have hne : at' l p ≠ at' m p := by simpa using hn
          rw [decide_eq_false fun e => hne (by rw [e])]
        · rw [eqEn] at hn
          have he : at' l p = at' m p := by simpa using hn
          exact ⟨inR (by omega) (by omega), p + 1, rfl, ⟨hp, up h2 he⟩, by omega⟩
      · have hp : p = l.length := by simp only [decide_eq_false_iff_not, List.length_map] at hge; omega
        have e : l = m := List.ext_getElem? fun i => by
          by_cases hi : i < l.length
          · rw [at_get hi, at_get (by omega), h2 i (by omega)]
          · rw [List.getElem?_eq_none (by omega), List.getElem?_eq_none (by omega)]
        rw [decide_eq_true e]
  · exact hF.elim


noncomputable def awake11Cs : List (FuncId × Sx.Spec) := [(37, genSpec [none, none] makeF), (58, genSpec [none, none] eofF), (24, genSpec [pEn, pEn] gsteps11F), (31, genSpec [pEn, none] gdo11F), (27, genSpec [pSp] gcount11F)]

def told11F : List Arg → (Res → Prop) → Prop
  | [.row r_l, .row r_m, .v (.agg [.w64 _, .w64 _])], R => r_l = (deE r_l).map enE ∧ ((deE r_l).length ≤ 1000 ∧ siE (deE r_l) = true) ∧ r_m = (deE r_m).map enE ∧ ((deE r_m).length ≤ 1000 ∧ siE (deE r_m) = true) ∧ R (.v (.bool true))
  | _, _ => False

noncomputable def l11Cs : List (FuncId × Sx.Spec) := [(23, awakeSpec), (17, genSpec [pEn] of5F), (46, genSpec [none] one5F), (28, genSpec [pEn, pRefE] same11F), (35, genSpec [pEn, pEn, none] told11F),
  (29, genSpec [pEn] gonce11F), (24, genSpec [pEn, pEn] gsteps11F), (31, genSpec [pEn, none] gdo11F), (27, genSpec [pSp] gcount11F),
  (30, genSpec [pRefE] ronce11F), (25, genSpec [pRefE, pRefE] rsteps11F), (32, genSpec [pRefE, none] rdo11F),
  (33, genSpec [pEn] esortF), (34, genSpec [pRefE] rsortF), (69, genSpec [pRefE, none] rtellF), (16, genSpec [pRefE] rsimple10F)]

/-- Those of the law of tables. -/
noncomputable def l11dCs : List (FuncId × Sx.Spec) := [(23, awakeSpec), (35, genSpec [pEn, pEn, none] told11F), (11, genSpec [pRo] table9F), (15, genSpec [pRo, none] gbuild10F)]

end Go.Proofs.Ytnjbgbdcbejciaa.L1
end

