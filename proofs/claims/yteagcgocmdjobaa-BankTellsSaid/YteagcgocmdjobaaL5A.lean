/-
  Layer 5: entries as values of the calculus; contracts of the document's Above, First, Best, Tell, Ordered, Compare.
-/
import Derived.Test.YteagcgocmdjobaaL4B
import Derived.Test.YteagcgocmdjobaaL1a
import Derived.Test.YteagcgocmdjobaaL5T
namespace Go.Proofs.Yteagcgocmdjobaa.L1
open Go.Sx Go.Sx.M

/-- Its word, as a value. -/
def wdE (x : En) : AV := .agg [.w64 x.v, .w64 x.w, .w64 x.m, .w64 x.n]

def rbSt (l : List En) (a b : BitVec 64) (n : Nat) : St :=
  ⟨[.vsl 0 0 (l.map enE).length, .any, .any, .ptr 1 0 0 true, .any, .int .i64 (bsG l a b n), .int .i64 ((l.length : Int) - 1 - n), .any, .any, .any, .any, .any, .any, .any, .any, .any, .any, .any, .any, .any, .any, .any, .any, .any, .any, .any, .any, .any, .any, .any, .any, .any, .any, .any, .any, .any, .any, .any, .any, .any], [some ⟨false, 48, 6, true, l.map enE⟩, some ⟨true, 30, 2, true, [.agg [.w64 a, .w64 b]]⟩]⟩
def rbM0 : Modes := ⟨[1, 0, 0, 1, 0, 2, 2, 0, 0, 0, 0, 0, 0, 0, 0, 0, 0, 0, 0, 0, 0, 0, 0, 0, 0, 0, 0, 0, 0, 0, 0, 0, 0, 0, 0, 0, 0, 0, 0, 0], [], [], [], []⟩
def rbM : Modes := ⟨[1, 0, 0, 1, 0, 1, 1, 0, 0, 0, 0, 0, 0, 0, 0, 0, 0, 0, 0, 0, 0, 0, 0, 0, 0, 0, 0, 0, 0, 0, 0, 0, 0, 0, 0, 0, 0, 0, 0, 0], [], [], [], []⟩
def rbI (l : List En) (n : Nat) : Prop := n ≤ l.length
def rbH (l : List En) (a b : BitVec 64) : List Hint := .nw :: [.linv _ 0 (rbSt l a b) (rbI l) (fun n => l.length + 1 - n) rbM0 rbM rbM (fun _ => []) fun n =>
  [.fork [.dy, .cell (wdE (at' l (l.length - 1 - n))), .fork [.fork [.nw] [.dy, .cell (.int .i64 (at' l (l.length - 1 - n)).len), .dy, .cell (.int .i64 (at' l (bsG l a b n).toNat).len), .fork [.nw] [.nw]]] [.nw]] []]]

def raboveF : List Arg → (Res → Prop) → Prop
  | [.v (.agg [.w64 v, .w64 w, .w64 m, .w64 n, .int .i64 k, .int .i64 j]), .v (.agg [.w64 c, .w64 d, .w64 p, .w64 q, .int .i64 s, .int .i64 t])], R => R (.v (.bool (abE ⟨v, w, m, n, k, j⟩ ⟨c, d, p, q, s, t⟩)))
  | _, _ => False

noncomputable def raboveCs : List (FuncId × Sx.Spec) := [(55, genSpec [none, none] wmeetF)]

theorem rabove_run (v w m n : BitVec 64) (k j : Int) (c d p q : BitVec 64) (s t : Int) (r : AV) : run raboveCs Try.prog 44 [.agg [.w64 v, .w64 w, .w64 m, .w64 n, .int .i64 k, .int .i64 j], .agg [.w64 c, .w64 d, .w64 p, .w64 q, .int .i64 s, .int .i64 t]] [] [.fork [] []] (yields (.v r)) =
    ((Decidable.decide (k > s) = true → AV.bool (wtB v w m n c d p q) = r) ∧ (Decidable.decide (k > s) = false → AV.bool false = r)) := by kernel_rfl

theorem raboveCs_ok : ∀ e ∈ raboveCs, SpecOK Try.prog e.1 e.2 := by
  intro e he
  simp only [raboveCs, List.mem_cons, List.not_mem_nil, or_false] at he
  rcases he with rfl
  · exact rwmeet_ok

theorem rabove_ok : SpecOK Try.prog 44 (genSpec [none, none] raboveF) := by
  refine genSpec_ok (run_ok (l := raboveCs) raboveCs_ok mixed noNG) fun l R hF => ?_
  unfold raboveF at hF
  split at hF
  · rename_i v w m n k j c d p q s t
    refine ⟨_, hF, rfl, [.fork [] []], ?_⟩
    show run raboveCs Try.prog _ [.agg [.w64 v, .w64 w, .w64 m, .w64 n, .int .i64 k, .int .i64 j], .agg [.w64 c, .w64 d, .w64 p, .w64 q, .int .i64 s, .int .i64 t]] [] _ _
    rw [rabove_run]
    unfold abE
    refine ⟨fun h => ?_, fun h => ?_⟩
    · rw [show decide (k > s) = true from h, Bool.true_and]; rfl
    · rw [show decide (k > s) = false from h, Bool.false_and]
  · exact hF.elim


def rfirstF : List Arg → (Res → Prop) → Prop
  | [.row r_l, .v (.agg [.w64 a, .w64 b])], R => r_l = (deE r_l).map enE ∧ (deE r_l).length ≤ 9223372036854775807 ∧ R (.v (.int .i64 (fsI (deE r_l) a b)))
  | _, _ => False

def rbestF : List Arg → (Res → Prop) → Prop
  | [.row r_l, .v (.agg [.w64 a, .w64 b])], R => r_l = (deE r_l).map enE ∧ (deE r_l).length ≤ 9223372036854775807 ∧ R (.v (.int .i64 (bsI (deE r_l) a b)))
  | _, _ => False

noncomputable def rbestCs : List (FuncId × Sx.Spec) := [(41, genSpec [none, none] wmatchF)]

theorem rbest_run (l : List En) (a b : BitVec 64) (r : AV) : run rbestCs Try.prog 45 [.vsl 0 0 (l.map enE).length, .agg [.w64 a, .w64 b]] [some ⟨false, (pRefE.getD (0, 0)).1, (pRefE.getD (0, 0)).2, true, (l.map enE)⟩] (rbH l a b) (yields (.v r)) =
    (inRange IntKind.i64 ((↑(List.length (List.map enE l)) : Int) - (1 : Int)) ∧ (St.mk [AV.vsl (0 : Nat) (0 : Nat) (List.length (List.map enE l)), AV.any, AV.any, AV.ptr ((0 : Nat) + (1 : Nat)) (0 : Nat) (0 : Nat) true, AV.any, AV.int IntKind.i64 (-1 : Int), AV.int IntKind.i64 ((↑(List.length (List.map enE l)) : Int) - (1 : Int)), AV.any, AV.any, AV.any, AV.any, AV.any, AV.any, AV.any, AV.any, AV.any, AV.any, AV.any, AV.any, AV.any, AV.any, AV.any, AV.any, AV.any, AV.any, AV.any, AV.any, AV.any, AV.any, AV.any, AV.any, AV.any, AV.any, AV.any, AV.any, AV.any, AV.any, AV.any, AV.any, AV.any] [some (Blk.mk false (nat_lit 48) (6 : Nat) true (List.map enE l)), some (Blk.mk true (30 : Nat) (2 : Nat) true [AV.agg [AV.w64 a, AV.w64 b]])] = rbSt l a b (0 : Nat) ∧ rbI l (0 : Nat)) ∧ ∀ (p : Nat), rbI l p → (Decidable.decide ((↑(List.length l) : Int) - (1 : Int) - (↑p : Int) ≥ (0 : Int)) = true → ((0 : Int) ≤ (↑(List.length l) : Int) - (1 : Int) - (↑p : Int) ∧ (↑(List.length l) : Int) - (1 : Int) - (↑p : Int) < (↑(List.length (List.map enE l)) : Int)) ∧ Blk.read Proofs.Try.prog (Blk.mk false (48 : TypeId) (6 : Nat) true (List.map enE l)) (46 : Nat) ((0 : Nat) + Int.toNat ((↑(List.length l) : Int) - (1 : Int) - (↑p : Int))) ((0 : Nat) + (0 : Nat)) = some (AV.agg [AV.w64 (at' l (List.length l - (1 : Nat) - p)).1, AV.w64 (at' l (List.length l - (1 : Nat) - p)).2, AV.w64 (at' l (List.length l - (1 : Nat) - p)).3, AV.w64 (at' l (List.length l - (1 : Nat) - p)).4]) ∧ (wmB (at' l (List.length l - (1 : Nat) - p)).1 (at' l (List.length l - (1 : Nat) - p)).2 (at' l (List.length l - (1 : Nat) - p)).3 (at' l (List.length l - (1 : Nat) - p)).4 a b = true → (Decidable.decide (bsG l a b p < (0 : Int)) = true → inRange IntKind.i64 ((↑(List.length l) : Int) - (1 : Int) - (↑p : Int) - (1 : Int)) ∧ ∃ (p' : Nat), St.mk [AV.vsl (0 : Nat) (0 : Nat) (List.length (List.map enE l)), AV.any, AV.any, AV.ptr ((0 : Nat) + (1 : Nat)) (0 : Nat) (0 : Nat) true, AV.any, AV.int IntKind.i64 ((↑(List.length l) : Int) - (1 : Int) - (↑p : Int)), AV.int IntKind.i64 ((↑(List.length l) : Int) - (1 : Int) - (↑p : Int) - (1 : Int)), AV.any, AV.any, AV.any, AV.any, AV.any, AV.any, AV.any, AV.any, AV.any, AV.any, AV.any, AV.any, AV.any, AV.any, AV.any, AV.any, AV.any, AV.any, AV.any, AV.any, AV.any, AV.any, AV.any, AV.any, AV.any, AV.any, AV.any, AV.any, AV.any, AV.any, AV.any, AV.any, AV.any] [some (Blk.mk false (48 : TypeId) (6 : Nat) true (List.map enE l)), some (Blk.mk true (30 : TypeId) (2 : Nat) true [AV.agg [AV.w64 a, AV.w64 b]])] = rbSt l a b p' ∧ rbI l p' ∧ List.length l + (1 : Nat) - p' < List.length l + (1 : Nat) - p) ∧ (Decidable.decide (bsG l a b p < (0 : Int)) = false → ((0 : Int) ≤ (↑(List.length l) : Int) - (1 : Int) - (↑p : Int) ∧ (↑(List.length l) : Int) - (1 : Int) - (↑p : Int) < (↑(List.length (List.map enE l)) : Int)) ∧ Blk.read Proofs.Try.prog (Blk.mk false (48 : TypeId) (6 : Nat) true (List.map enE l)) (3 : Nat) ((0 : Nat) + Int.toNat ((↑(List.length l) : Int) - (1 : Int) - (↑p : Int))) ((0 : Nat) + (4 : Nat)) = some (AV.int IntKind.i64 (at' l (List.length l - (1 : Nat) - p)).5) ∧ ((0 : Int) ≤ bsG l a b p ∧ bsG l a b p < (↑(List.length (List.map enE l)) : Int)) ∧ Blk.read Proofs.Try.prog (Blk.mk false (48 : TypeId) (6 : Nat) true (List.map enE l)) (3 : Nat) ((0 : Nat) + Int.toNat (bsG l a b p)) ((0 : Nat) + (4 : Nat)) = some (AV.int IntKind.i64 (at' l (Int.toNat (bsG l a b p))).5) ∧ (Decidable.decide ((at' l (List.length l - (1 : Nat) - p)).5 ≥ (at' l (Int.toNat (bsG l a b p))).5) = true → inRange IntKind.i64 ((↑(List.length l) : Int) - (1 : Int) - (↑p : Int) - (1 : Int)) ∧ ∃ (p' : Nat), St.mk [AV.vsl (0 : Nat) (0 : Nat) (List.length (List.map enE l)), AV.any, AV.any, AV.ptr ((0 : Nat) + (1 : Nat)) (0 : Nat) (0 : Nat) true, AV.any, AV.int IntKind.i64 ((↑(List.length l) : Int) - (1 : Int) - (↑p : Int)), AV.int IntKind.i64 ((↑(List.length l) : Int) - (1 : Int) - (↑p : Int) - (1 : Int)), AV.any, AV.any, AV.any, AV.any, AV.any, AV.any, AV.any, AV.any, AV.any, AV.any, AV.any, AV.any, AV.any, AV.any, AV.any, AV.any, AV.any, AV.any, AV.any, AV.any, AV.any, AV.any, AV.any, AV.any, AV.any, AV.any, AV.any, AV.any, AV.any, AV.any, AV.any, AV.any, AV.any] [some (Blk.mk false (48 : TypeId) (6 : Nat) true (List.map enE l)), some (Blk.mk true (30 : TypeId) (2 : Nat) true [AV.agg [AV.w64 a, AV.w64 b]])] = rbSt l a b p' ∧ rbI l p' ∧ List.length l + (1 : Nat) - p' < List.length l + (1 : Nat) - p) ∧ (Decidable.decide ((at' l (List.length l - (1 : Nat) - p)).5 ≥ (at' l (Int.toNat (bsG l a b p))).5) = false → inRange IntKind.i64 ((↑(List.length l) : Int) - (1 : Int) - (↑p : Int) - (1 : Int)) ∧ ∃ (p' : Nat), St.mk [AV.vsl (0 : Nat) (0 : Nat) (List.length (List.map enE l)), AV.any, AV.any, AV.ptr ((0 : Nat) + (1 : Nat)) (0 : Nat) (0 : Nat) true, AV.any, AV.int IntKind.i64 (bsG l a b p), AV.int IntKind.i64 ((↑(List.length l) : Int) - (1 : Int) - (↑p : Int) - (1 : Int)), AV.any, AV.any, AV.any, AV.any, AV.any, AV.any, AV.any, AV.any, AV.any, AV.any, AV.any, AV.any, AV.any, AV.any, AV.any, AV.any, AV.any, AV.any, AV.any, AV.any, AV.any, AV.any, AV.any, AV.any, AV.any, AV.any, AV.any, AV.any, AV.any, AV.any, AV.any, AV.any, AV.any] [some (Blk.mk false (48 : TypeId) (6 : Nat) true (List.map enE l)), some (Blk.mk true (30 : TypeId) (2 : Nat) true [AV.agg [AV.w64 a, AV.w64 b]])] = rbSt l a b p' ∧ rbI l p' ∧ List.length l + (1 : Nat) - p' < List.length l + (1 : Nat) - p))) ∧ (wmB (at' l (List.length l - (1 : Nat) - p)).1 (at' l (List.length l - (1 : Nat) - p)).2 (at' l (List.length l - (1 : Nat) - p)).3 (at' l (List.length l - (1 : Nat) - p)).4 a b = false → inRange IntKind.i64 ((↑(List.length l) : Int) - (1 : Int) - (↑p : Int) - (1 : Int)) ∧ ∃ (p' : Nat), St.mk [AV.vsl (0 : Nat) (0 : Nat) (List.length (List.map enE l)), AV.any, AV.any, AV.ptr ((0 : Nat) + (1 : Nat)) (0 : Nat) (0 : Nat) true, AV.any, AV.int IntKind.i64 (bsG l a b p), AV.int IntKind.i64 ((↑(List.length l) : Int) - (1 : Int) - (↑p : Int) - (1 : Int)), AV.any, AV.any, AV.any, AV.any, AV.any, AV.any, AV.any, AV.any, AV.any, AV.any, AV.any, AV.any, AV.any, AV.any, AV.any, AV.any, AV.any, AV.any, AV.any, AV.any, AV.any, AV.any, AV.any, AV.any, AV.any, AV.any, AV.any, AV.any, AV.any, AV.any, AV.any, AV.any, AV.any] [some (Blk.mk false (48 : TypeId) (6 : Nat) true (List.map enE l)), some (Blk.mk true (30 : TypeId) (2 : Nat) true [AV.agg [AV.w64 a, AV.w64 b]])] = rbSt l a b p' ∧ rbI l p' ∧ List.length l + (1 : Nat) - p' < List.length l + (1 : Nat) - p)) ∧ (Decidable.decide ((↑(List.length l) : Int) - (1 : Int) - (↑p : Int) ≥ (0 : Int)) = false → AV.int IntKind.i64 (bsG l a b p) = r)) := by kernel_rfl

theorem rbestCs_ok : ∀ e ∈ rbestCs, SpecOK Try.prog e.1 e.2 := by
  intro e he
  simp only [rbestCs, List.mem_cons, List.not_mem_nil, or_false] at he
  rcases he with rfl
  · exact rwmatch_ok

theorem rbest_ok : SpecOK Try.prog 45 (genSpec [pRefE, none] rbestF) := by
  refine genSpec_ok (run_ok (l := rbestCs) rbestCs_ok mixed noNG) fun l R hF => ?_
  unfold rbestF at hF
  split at hF
  · rename_i r_l a b
    obtain ⟨hr_l, hl, hF⟩ := hF
    generalize deE r_l = l at hr_l hl hF
    subst hr_l
    refine ⟨_, hF, rfl, (rbH l a b), ?_⟩
    show run rbestCs Try.prog _ [.vsl 0 0 (l.map enE).length, .agg [.w64 a, .w64 b]] [some ⟨false, (pRefE.getD (0, 0)).1, (pRefE.getD (0, 0)).2, true, (l.map enE)⟩] _ _
    rw [rbest_run]
    refine ⟨by rw [List.length_map]; exact inR (by omega) (by omega), ⟨by unfold rbSt; rw [List.length_map]; simp only [bsG, Int.natCast_zero, Int.sub_zero], Nat.zero_le _⟩, ?_⟩
    intro n (hn : n ≤ l.length)
    have hs := bsG_spec l a b n hn
    refine ⟨fun hge => ?_, fun hlt => ?_⟩
    · have hn : n < l.length := by simp only [decide_eq_true_eq] at hge; omega
      have ek : ((l.length : Int) - 1 - n).toNat = l.length - 1 - n := by omega
      have B : 0 ≤ (l.length : Int) - 1 - n ∧ (l.length : Int) - 1 - n < ((l.map enE).length : Int) := by rw [List.length_map]; omega
      have i1 : inRange .i64 ((l.length : Int) - 1 - n - 1) := inR (by omega) (by omega)
      have st : ∀ x : Int, bsG l a b (n + 1) = x → (⟨[.vsl 0 0 (l.map enE).length, .any, .any, .ptr 1 0 0 true, .any, .int .i64 x, .int .i64 ((l.length : Int) - 1 - n - 1), .any, .any, .any, .any, .any, .any, .any, .any, .any, .any, .any, .any, .any, .any, .any, .any, .any, .any, .any, .any, .any, .any, .any, .any, .any, .any, .any, .any, .any, .any, .any, .any, .any], [some ⟨false, 48, 6, true, l.map enE⟩, some ⟨true, 30, 2, true, [.agg [.w64 a, .w64 b]]⟩]⟩ : St) = rbSt l a b (n + 1) := fun x hx => by
        unfold rbSt
        rw [hx, show (l.length : Int) - 1 - ((n + 1 : Nat) : Int) = (l.length : Int) - 1 - n - 1 from by omega]
      have nx : ∀ x : Int, bsG l a b (n + 1) = x → ∃ p', (⟨[.vsl 0 0 (l.map enE).length, .any, .any, .ptr 1 0 0 true, .any, .int .i64 x, .int .i64 ((l.length : Int) - 1 - n - 1), .any, .any, .any, .any, .any, .any, .any, .any, .any, .any, .any, .any, .any, .any, .any, .any, .any, .any, .any, .any, .any, .any, .any, .any, .any, .any, .any, .any, .any, .any, .any, .any, .any], [some ⟨false, 48, 6, true, l.map enE⟩, some ⟨true, 30, 2, true, [.agg [.w64 a, .w64 b]]⟩]⟩ : St) = rbSt l a b p' ∧ rbI l p' ∧ l.length + 1 - p' < l.length + 1 - n := fun x hx => by
        have h1 : n + 1 ≤ l.length := hn
        exact ⟨n + 1, st x hx, h1, Nat.sub_lt_sub_left (by omega) (by omega)⟩
      have rd : ∀ {t : TypeId} {o : Nat} {y : AV}, partOf Try.prog t (enE (at' l (l.length - 1 - n))).cells o = some y → (Blk.mk false 48 6 true (l.map enE)).read Try.prog t (0 + ((l.length : Int) - 1 - n).toNat) o = some y := fun h => read_rows B.1 B.2 (by rw [ek]; exact h)
      have eg : bsG l a b (n + 1) = if mtE (at' l (l.length - 1 - n)) a b && (decide (bsG l a b n < 0) || decide ((at' l (l.length - 1 - n)).len ≥ (at' l (bsG l a b n).toNat).len)) then ((l.length - 1 - n : Nat) : Int) else bsG l a b n := rfl
      have ei : ((l.length - 1 - n : Nat) : Int) = (l.length : Int) - 1 - n := by omega
      rw [ei] at eg
      refine ⟨B, rd (ref_word _), fun hm => ⟨fun hneg => ⟨i1, nx _ ?_⟩, fun hpos => ⟨B, rd (ref_len _), ?_, ?_, fun hge => ⟨i1, nx _ ?_⟩, fun hlt => ⟨i1, nx _ ?_⟩⟩⟩, fun hm => ⟨i1, nx _ ?_⟩⟩
      · rw [eg, show mtE (at' l (l.length - 1 - n)) a b = true from hm, hneg]; rfl
      · simp only [decide_eq_false_iff_not] at hpos
        rcases hs with ⟨h, _⟩ | ⟨i, h, _, h3, _⟩
        · omega
        · rw [h, List.length_map]; omega
      · simp only [decide_eq_false_iff_not] at hpos
        rcases hs with ⟨h, _⟩ | ⟨i, h, _, h3, _⟩
        · omega
        · exact read_rows (by omega) (by rw [h, List.length_map]; omega) (ref_len _)
      · rw [eg, show mtE (at' l (l.length - 1 - n)) a b = true from hm, hpos, hge]; rfl
      · rw [eg, show mtE (at' l (l.length - 1 - n)) a b = true from hm, hpos, hlt]; rfl
      · rw [eg, show mtE (at' l (l.length - 1 - n)) a b = false from hm]; rfl
    · have hp : n = l.length := by simp only [decide_eq_false_iff_not] at hlt; omega
      subst hp
      rfl
  · exact hF.elim


end Go.Proofs.Yteagcgocmdjobaa.L1
