/-
  Texts in one: L5T L5A L5B L5C L5D L5P.
-/
import Derived.Test.YtnjbgbdcbejciaaR
import Derived.Test.YtnjbgbdcbejciaaL4c
import Derived.Test.YtnjbgbdcbejciaaL1a
import Derived.Test.YtnjbgbdcbejciaaMa

section
/-
  Layer 5: entries as values of the calculus.
-/
namespace Go.Proofs.Ytnjbgbdcbejciaa.L1
open Go.Sx Go.Sx.M

/-- An entry's cells. -/
def enE (x : En) : AV := .agg [.w64 x.v, .w64 x.w, .w64 x.m, .w64 x.n, .int .i64 x.len, .int .i64 x.act]

/-- The entry of such cells. -/
def deE1 (x : AV) : En := ⟨cW (x.cells.getD 0 .any), cW (x.cells.getD 1 .any), cW (x.cells.getD 2 .any), cW (x.cells.getD 3 .any), cI (x.cells.getD 4 .any), cI (x.cells.getD 5 .any)⟩

/-- The entries of a row. -/
def deE (l : List AV) : List En := l.map deE1

theorem deE_map (l : List En) : deE (l.map enE) = l := by
  unfold deE
  rw [List.map_map]
  exact List.map_id l

/-- Rows of the document's entries. -/
def pRefE : Par := some (54, 6)

theorem ref_word (x : En) : partOf Try.prog 52 (enE x).cells 0 = some (.agg [.w64 x.v, .w64 x.w, .w64 x.m, .w64 x.n]) := by kernel_rfl
theorem ref_whole (x : En) : partOf Try.prog 54 (enE x).cells 0 = some (enE x) := by kernel_rfl
theorem ref_len (x : En) : partOf Try.prog 3 (enE x).cells 4 = some (.int .i64 x.len) := by kernel_rfl
theorem ref_act (x : En) : partOf Try.prog 3 (enE x).cells 5 = some (.int .i64 x.act) := by kernel_rfl

end Go.Proofs.Ytnjbgbdcbejciaa.L1
end

section
/-
  Layer 5: entries as values of the calculus; contracts of the document's Above, First, Best, Tell, Ordered, Compare.
-/
namespace Go.Proofs.Ytnjbgbdcbejciaa.L1
open Go.Sx Go.Sx.M

/-- Its word, as a value. -/
def wdE (x : En) : AV := .agg [.w64 x.v, .w64 x.w, .w64 x.m, .w64 x.n]

def rbSt (l : List En) (a b : BitVec 64) (n : Nat) : St :=
  ⟨[.vsl 0 0 (l.map enE).length, .any, .any, .ptr 1 0 0 true, .any, .int .i64 (bsG l a b n), .int .i64 ((l.length : Int) - 1 - n), .any, .any, .any, .any, .any, .any, .any, .any, .any, .any, .any, .any, .any, .any, .any, .any, .any, .any, .any, .any, .any, .any, .any, .any, .any, .any, .any, .any, .any, .any, .any, .any, .any], [some ⟨false, 54, 6, true, l.map enE⟩, some ⟨true, 24, 2, true, [.agg [.w64 a, .w64 b]]⟩]⟩
def rbM0 : Modes := ⟨[1, 0, 0, 1, 0, 2, 2, 0, 0, 0, 0, 0, 0, 0, 0, 0, 0, 0, 0, 0, 0, 0, 0, 0, 0, 0, 0, 0, 0, 0, 0, 0, 0, 0, 0, 0, 0, 0, 0, 0], [], [], [], []⟩
def rbM : Modes := ⟨[1, 0, 0, 1, 0, 1, 1, 0, 0, 0, 0, 0, 0, 0, 0, 0, 0, 0, 0, 0, 0, 0, 0, 0, 0, 0, 0, 0, 0, 0, 0, 0, 0, 0, 0, 0, 0, 0, 0, 0], [], [], [], []⟩
def rbI (l : List En) (n : Nat) : Prop := n ≤ l.length
def rbH (l : List En) (a b : BitVec 64) : List Hint := .nw :: [.linv _ 0 (rbSt l a b) (rbI l) (fun n => l.length + 1 - n) rbM0 rbM rbM (fun _ => []) fun n =>
  [.fork [.dy, .cell (wdE (at' l (l.length - 1 - n))), .fork [.fork [.nw] [.dy, .cell (.int .i64 (at' l (l.length - 1 - n)).len), .dy, .cell (.int .i64 (at' l (bsG l a b n).toNat).len), .fork [.nw] [.nw]]] [.nw]] []]]

def raboveF : List Arg → (Res → Prop) → Prop
  | [.v (.agg [.w64 v, .w64 w, .w64 m, .w64 n, .int .i64 k, .int .i64 j]), .v (.agg [.w64 c, .w64 d, .w64 p, .w64 q, .int .i64 s, .int .i64 t])], R => R (.v (.bool (abE ⟨v, w, m, n, k, j⟩ ⟨c, d, p, q, s, t⟩)))
  | _, _ => False

noncomputable def raboveCs : List (FuncId × Sx.Spec) := [(45, genSpec [none, none] wmeetF)]

theorem rabove_run (v w m n : BitVec 64) (k j : Int) (c d p q : BitVec 64) (s t : Int) (r : AV) : run raboveCs Try.prog 47 [.agg [.w64 v, .w64 w, .w64 m, .w64 n, .int .i64 k, .int .i64 j], .agg [.w64 c, .w64 d, .w64 p, .w64 q, .int .i64 s, .int .i64 t]] [] [.fork [] []] (yields (.v r)) =
    ((Decidable.decide (k > s) = true → AV.bool (wtB v w m n c d p q) = r) ∧ (Decidable.decide (k > s) = false → AV.bool false = r)) := by kernel_rfl

theorem raboveCs_ok : ∀ e ∈ raboveCs, SpecOK Try.prog e.1 e.2 := by
  intro e he
  simp only [raboveCs, List.mem_cons, List.not_mem_nil, or_false] at he
  rcases he with rfl
  · exact rwmeet_ok

theorem rabove_ok : SpecOK Try.prog 47 (genSpec [none, none] raboveF) := by
  refine genSpec_ok (run_ok (l := raboveCs) raboveCs_ok mixed noNG) fun l R hF => ?_
  unfold raboveF at hF
  split at hF
  · rename_i v w m n k j c d p q s t
    refine ⟨_, hF, rfl, [.fork [] []], ?_⟩
    show run raboveCs Try.prog _ [.agg [.w64 v, .w64 w, .w64 m, .w64 n, .int .i64 k, .int .i64 j], .agg [.w64 c, .w64 d, .w64 p, .w64 q, .int .i64 s, .int .i64 t]] [] _ _
    rw [rabove_run]
    unfold abE
    refine ⟨fun h => ?_, fun h => ?_⟩
    · rw [show decide (k > s) = true from h, Bool.true_and]; rfl
    · rw [show decide (k > s) = false from h, Bool.false_and]
  · exact hF.elim


def rfirstF : List Arg → (Res → Prop) → Prop
  | [.row r_l, .v (.agg [.w64 a, .w64 b])], R => r_l = (deE r_l).map enE ∧ (deE r_l).length ≤ 9223372036854775807 ∧ R (.v (.int .i64 (fsI (deE r_l) a b)))
  | _, _ => False

def rbestF : List Arg → (Res → Prop) → Prop
  | [.row r_l, .v (.agg [.w64 a, .w64 b])], R => r_l = (deE r_l).map enE ∧ (deE r_l).length ≤ 9223372036854775807 ∧ R (.v (.int .i64 (bsI (deE r_l) a b)))
  | _, _ => False

noncomputable def rbestCs : List (FuncId × Sx.Spec) := [(122, genSpec [none, none] wmatchF)]

theorem rbest_run (l : List En) (a b : BitVec 64) (r : AV) : run rbestCs Try.prog 100 [.vsl 0 0 (l.map enE).length, .agg [.w64 a, .w64 b]] [some ⟨false, (pRefE.getD (0, 0)).1, (pRefE.getD (0, 0)).2, true, (l.map enE)⟩] (rbH l a b) (yields (.v r)) =
    (inRange IntKind.i64 ((↑(List.length (List.map enE l)) : Int) - (1 : Int)) ∧ (St.mk [AV.vsl 0 0 (List.length (List.map enE l)), .any, .any, AV.ptr ((0 : Nat) + (1 : Nat)) 0 0 true, .any, AV.int IntKind.i64 (-1), AV.int IntKind.i64 ((↑(List.length (List.map enE l)) : Int) - (1 : Int)), .any, .any, .any, .any, .any, .any, .any, .any, .any, .any, .any, .any, .any, .any, .any, .any, .any, .any, .any, .any, .any, .any, .any, .any, .any, .any, .any, .any, .any, .any, .any, .any, .any] [some (Blk.mk false (54 : TypeId) 6 true (List.map enE l)), some (Blk.mk true 24 2 true [AV.agg [AV.w64 a, AV.w64 b]])] = rbSt l a b 0 ∧ rbI l 0) ∧ ∀ (p : Nat), rbI l p → (Decidable.decide ((↑(List.length l) : Int) - (1 : Int) - (↑p : Int) ≥ (0 : Int)) = true → ((0 : Int) ≤ (↑(List.length l) : Int) - (1 : Int) - (↑p : Int) ∧ (↑(List.length l) : Int) - (1 : Int) - (↑p : Int) < (↑(List.length (List.map enE l)) : Int)) ∧ Blk.read Proofs.Try.prog (Blk.mk false (54 : TypeId) 6 true (List.map enE l)) 52 ((0 : Nat) + Int.toNat ((↑(List.length l) : Int) - (1 : Int) - (↑p : Int))) ((0 : Nat) + (0 : Nat)) = some (AV.agg [AV.w64 (at' l (List.length l - (1 : Nat) - p)).1, AV.w64 (at' l (List.length l - (1 : Nat) - p)).2, AV.w64 (at' l (List.length l - (1 : Nat) - p)).3, AV.w64 (at' l (List.length l - (1 : Nat) - p)).4]) ∧ (wmB (at' l (List.length l - (1 : Nat) - p)).1 (at' l (List.length l - (1 : Nat) - p)).2 (at' l (List.length l - (1 : Nat) - p)).3 (at' l (List.length l - (1 : Nat) - p)).4 a b = true → (Decidable.decide (bsG l a b p < (0 : Int)) = true → inRange IntKind.i64 ((↑(List.length l) : Int) - (1 : Int) - (↑p : Int) - (1 : Int)) ∧ ∃ (p' : Nat), St.mk [AV.vsl 0 0 (List.length (List.map enE l)), .any, .any, AV.ptr ((0 : Nat) + (1 : Nat)) 0 0 true, .any, AV.int IntKind.i64 ((↑(List.length l) : Int) - (1 : Int) - (↑p : Int)), AV.int IntKind.i64 ((↑(List.length l) : Int) - (1 : Int) - (↑p : Int) - (1 : Int)), .any, .any, .any, .any, .any, .any, .any, .any, .any, .any, .any, .any, .any, .any, .any, .any, .any, .any, .any, .any, .any, .any, .any, .any, .any, .any, .any, .any, .any, .any, .any, .any, .any] [some (Blk.mk false (54 : TypeId) 6 true (List.map enE l)), some (Blk.mk true (24 : TypeId) 2 true [AV.agg [AV.w64 a, AV.w64 b]])] = rbSt l a b p' ∧ rbI l p' ∧ List.length l + (1 : Nat) - p' < List.length l + (1 : Nat) - p) ∧ (Decidable.decide (bsG l a b p < (0 : Int)) = false → ((0 : Int) ≤ (↑(List.length l) : Int) - (1 : Int) - (↑p : Int) ∧ (↑(List.length l) : Int) - (1 : Int) - (↑p : Int) < (↑(List.length (List.map enE l)) : Int)) ∧ Blk.read Proofs.Try.prog (Blk.mk false (54 : TypeId) 6 true (List.map enE l)) 3 ((0 : Nat) + Int.toNat ((↑(List.length l) : Int) - (1 : Int) - (↑p : Int))) ((0 : Nat) + (4 : Nat)) = some (AV.int IntKind.i64 (at' l (List.length l - (1 : Nat) - p)).5) ∧ ((0 : Int) ≤ bsG l a b p ∧ bsG l a b p < (↑(List.length (List.map enE l)) : Int)) ∧ Blk.read Proofs.Try.prog (Blk.mk false (54 : TypeId) 6 true (List.map enE l)) 3 ((0 : Nat) + Int.toNat (bsG l a b p)) ((0 : Nat) + (4 : Nat)) = some (AV.int IntKind.i64 (at' l (Int.toNat (bsG l a b p))).5) ∧ (Decidable.decide ((at' l (List.length l - (1 : Nat) - p)).5 ≥ (at' l (Int.toNat (bsG l a b p))).5) = true → inRange IntKind.i64 ((↑(List.length l) : Int) - (1 : Int) - (↑p : Int) - (1 : Int)) ∧ ∃ (p' : Nat), St.mk [AV.vsl 0 0 (List.length (List.map enE l)), .any, .any, AV.ptr ((0 : Nat) + (1 : Nat)) 0 0 true, .any, AV.int IntKind.i64 ((↑(List.length l) : Int) - (1 : Int) - (↑p : Int)), AV.int IntKind.i64 ((↑(List.length l) : Int) - (1 : Int) - (↑p : Int) - (1 : Int)), .any, .any, .any, .any, .any, .any, .any, .any, .any, .any, .any, .any, .any, .any, .any, .any, .any, .any, .any, .any, .any, .any, .any, .any, .any, .any, .any, .any, .any, .any, .any, .any, .any] [some (Blk.mk false (54 : TypeId) 6 true (List.map enE l)), some (Blk.mk true (24 : TypeId) 2 true [AV.agg [AV.w64 a, AV.w64 b]])] = rbSt l a b p' ∧ rbI l p' ∧ List.length l + (1 : Nat) - p' < List.length l + (1 : Nat) - p) ∧ (Decidable.decide ((at' l (List.length l - (1 : Nat) - p)).5 ≥ (at' l (Int.toNat (bsG l a b p))).5) = false → inRange IntKind.i64 ((↑(List.length l) : Int) - (1 : Int) - (↑p : Int) - (1 : Int)) ∧ ∃ (p' : Nat), St.mk [AV.vsl 0 0 (List.length (List.map enE l)), .any, .any, AV.ptr ((0 : Nat) + (1 : Nat)) 0 0 true, .any, AV.int IntKind.i64 (bsG l a b p), AV.int IntKind.i64 ((↑(List.length l) : Int) - (1 : Int) - (↑p : Int) - (1 : Int)), .any, .any, .any, .any, .any, .any, .any, .any, .any, .any, .any, .any, .any, .any, .any, .any, .any, .any, .any, .any, .any, .any, .any, .any, .any, .any, .any, .any, .any, .any, .any, .any, .any] [some (Blk.mk false (54 : TypeId) 6 true (List.map enE l)), some (Blk.mk true (24 : TypeId) 2 true [AV.agg [AV.w64 a, AV.w64 b]])] = rbSt l a b p' ∧ rbI l p' ∧ List.length l + (1 : Nat) - p' < List.length l + (1 : Nat) - p))) ∧ (wmB (at' l (List.length l - (1 : Nat) - p)).1 (at' l (List.length l - (1 : Nat) - p)).2 (at' l (List.length l - (1 : Nat) - p)).3 (at' l (List.length l - (1 : Nat) - p)).4 a b = false → inRange IntKind.i64 ((↑(List.length l) : Int) - (1 : Int) - (↑p : Int) - (1 : Int)) ∧ ∃ (p' : Nat), St.mk [AV.vsl 0 0 (List.length (List.map enE l)), .any, .any, AV.ptr ((0 : Nat) + (1 : Nat)) 0 0 true, .any, AV.int IntKind.i64 (bsG l a b p), AV.int IntKind.i64 ((↑(List.length l) : Int) - (1 : Int) - (↑p : Int) - (1 : Int)), .any, .any, .any, .any, .any, .any, .any, .any, .any, .any, .any, .any, .any, .any, .any, .any, .any, .any, .any, .any, .any, .any, .any, .any, .any, .any, .any, .any, .any, .any, .any, .any, .any] [some (Blk.mk false (54 : TypeId) 6 true (List.map enE l)), some (Blk.mk true (24 : TypeId) 2 true [AV.agg [AV.w64 a, AV.w64 b]])] = rbSt l a b p' ∧ rbI l p' ∧ List.length l + (1 : Nat) - p' < List.length l + (1 : Nat) - p)) ∧ (Decidable.decide ((↑(List.length l) : Int) - (1 : Int) - (↑p : Int) ≥ (0 : Int)) = false → AV.int IntKind.i64 (bsG l a b p) = r)) := by kernel_rfl

theorem rbestCs_ok : ∀ e ∈ rbestCs, SpecOK Try.prog e.1 e.2 := by
  intro e he
  simp only [rbestCs, List.mem_cons, List.not_mem_nil, or_false] at he
  rcases he with rfl
  · exact rwmatch_ok

theorem rbest_ok : SpecOK Try.prog 100 (genSpec [pRefE, none] rbestF) := by
  refine genSpec_ok (run_ok (l := rbestCs) rbestCs_ok mixed noNG) fun l R hF => ?_
  unfold rbestF at hF
  split at hF
  · rename_i r_l a b
    obtain ⟨hr_l, hl, hF⟩ := hF
    generalize deE r_l = l at hr_l hl hF
    subst hr_l
    refine ⟨_, hF, rfl, (rbH l a b), ?_⟩
    show run rbestCs Try.prog _ [.vsl 0 0 (l.map enE).length, .agg [.w64 a, .w64 b]] [some ⟨false, (pRefE.getD (0, 0)).1, (pRefE.getD (0, 0)).2, true, (l.map enE)⟩] _ _
    rw [rbest_run]
    refine ⟨by rw [List.length_map]; exact inR (by omega) (by omega), ⟨by unfold rbSt; rw [List.length_map]; simp only [bsG, Int.natCast_zero, Int.sub_zero], Nat.zero_le _⟩, ?_⟩
    intro n (hn : n ≤ l.length)
    have hs := bsG_spec l a b n hn
    refine ⟨fun hge => ?_, fun hlt => ?_⟩
    · have hn : n < l.length := by simp only [decide_eq_true_eq] at hge; omega
      have ek : ((l.length : Int) - 1 - n).toNat = l.length - 1 - n := by omega
      have B : 0 ≤ (l.length : Int) - 1 - n ∧ (l.length : Int) - 1 - n < ((l.map enE).length : Int) := by rw [List.length_map]; omega
      have i1 : inRange .i64 ((l.length : Int) - 1 - n - 1) := inR (by omega) (by omega)
      have st : ∀ x : Int, bsG l a b (n + 1) = x → (⟨[.vsl 0 0 (l.map enE).length, .any, .any, .ptr 1 0 0 true, .any, .int .i64 x, .int .i64 ((l.length : Int) - 1 - n - 1), .any, .any, .any, .any, .any, .any, .any, .any, .any, .any, .any, .any, .any, .any, .any, .any, .any, .any, .any, .any, .any, .any, .any, .any, .any, .any, .any, .any, .any, .any, .any, .any, .any], [some ⟨false, 54, 6, true, l.map enE⟩, some ⟨true, 24, 2, true, [.agg [.w64 a, .w64 b]]⟩]⟩ : St) = rbSt l a b (n + 1) := fun x hx => by
        unfold rbSt
        rw [hx, show (l.length : Int) - 1 - ((n + 1 : Nat) : Int) = (l.length : Int) - 1 - n - 1 from by omega]
      have nx : ∀ x : Int, bsG l a b (n + 1) = x → ∃ p', (⟨[.vsl 0 0 (l.map enE).length, .any, .any, .ptr 1 0 0 true, .any, .int .i64 x, .int .i64 ((l.length : Int) - 1 - n - 1), .any, .any, .any, .any, .any, .any, .any, .any, .any, .any, .any, .any, .any, .any, .any, .any, .any, .any, .any, .any, .any, .any, .any, .any, .any, .any, .any, .any, .any, .any, .any, .any, .any], [some ⟨false, 54, 6, true, l.map enE⟩, some ⟨true, 24, 2, true, [.agg [.w64 a, .w64 b]]⟩]⟩ : St) = rbSt l a b p' ∧ rbI l p' ∧ l.length + 1 - p' < l.length + 1 - n := fun x hx => by
        have h1 : n + 1 ≤ l.length := hn
        exact ⟨n + 1, st x hx, h1, Nat.sub_lt_sub_left (by omega) (by omega)⟩
      have rd : ∀ {t : TypeId} {o : Nat} {y : AV}, partOf Try.prog t (enE (at' l (l.length - 1 - n))).cells o = some y → (Blk.mk false 54 6 true (l.map enE)).read Try.prog t (0 + ((l.length : Int) - 1 - n).toNat) o = some y := fun h => read_rows B.1 B.2 (by rw [ek]; exact h)
      have eg : bsG l a b (n + 1) = if mtE (at' l (l.length - 1 - n)) a b && (decide (bsG l a b n < 0) || decide ((at' l (l.length - 1 - n)).len ≥ (at' l (bsG l a b n).toNat).len)) then ((l.length - 1 - n : Nat) : Int) else bsG l a b n := rfl
      have ei : ((l.length - 1 - n : Nat) : Int) = (l.length : Int) - 1 - n := by omega
      rw [ei] at eg
      refine ⟨B, rd (ref_word _), fun hm => ⟨fun hneg => ⟨i1, nx _ ?_⟩, fun hpos => ⟨B, rd (ref_len _), ?_, ?_, fun hge => ⟨i1, nx _ ?_⟩, fun hlt => ⟨i1, nx _ ?_⟩⟩⟩, fun hm => ⟨i1, nx _ ?_⟩⟩
      · rw [eg, show mtE (at' l (l.length - 1 - n)) a b = true from hm, hneg]; rfl
      · simp only [decide_eq_false_iff_not] at hpos
        rcases hs with ⟨h, _⟩ | ⟨i, h, _, h3, _⟩
        · omega
        · rw [h, List.length_map]; omega
      · simp only [decide_eq_false_iff_not] at hpos
        rcases hs with ⟨h, _⟩ | ⟨i, h, _, h3, _⟩
        · omega
        · exact read_rows (by omega) (by rw [h, List.length_map]; omega) (ref_len _)
      · rw [eg, show mtE (at' l (l.length - 1 - n)) a b = true from hm, hpos, hge]; rfl
      · rw [eg, show mtE (at' l (l.length - 1 - n)) a b = true from hm, hpos, hlt]; rfl
      · rw [eg, show mtE (at' l (l.length - 1 - n)) a b = false from hm]; rfl
    · have hp : n = l.length := by simp only [decide_eq_false_iff_not] at hlt; omega
      subst hp
      rfl
  · exact hF.elim


end Go.Proofs.Ytnjbgbdcbejciaa.L1
end

section
/-
  Layer 5: contracts of the document's Tell, Ordered, Compare; of the law's One and Of.
-/
namespace Go.Proofs.Ytnjbgbdcbejciaa.L1
open Go.Sx Go.Sx.M

def roSt (l : List En) (p : Nat) : St := ⟨[.vsl 0 0 (l.map enE).length, .any, .any, .int .i64 p, .any, .any, .any, .any, .any, .any, .any, .any, .any, .any, .any, .any, .any, .any, .any, .any, .any, .any, .any, .any, .any, .any, .any, .any], [some ⟨false, 54, 6, true, l.map enE⟩]⟩
def roSt2 (l : List En) (p k : Nat) : St := ⟨[.vsl 0 0 (l.map enE).length, .any, .any, .int .i64 p, .int .i64 k, .any, .any, .any, .any, .any, .any, .any, .any, .any, .any, .any, .any, .any, .any, .any, .any, .any, .any, .any, .any, .any, .any, .any], [some ⟨false, 54, 6, true, l.map enE⟩]⟩
def roM0 : Modes := ⟨[1, 0, 0, 2, 0, 0, 0, 0, 0, 0, 0, 0, 0, 0, 0, 0, 0, 0, 0, 0, 0, 0, 0, 0, 0, 0, 0, 0], [], [], [], []⟩
def roM : Modes := ⟨[1, 0, 0, 1, 0, 0, 0, 0, 0, 0, 0, 0, 0, 0, 0, 0, 0, 0, 0, 0, 0, 0, 0, 0, 0, 0, 0, 0], [], [], [], []⟩
def roM' : Modes := ⟨[0, 0, 1, 0, 0, 0, 0, 0, 0, 0, 0, 0, 0, 0, 0, 0, 0, 0, 0, 0, 0, 0, 0, 0, 0, 0, 0, 0], [], [], [], []⟩
def roN0 : Modes := ⟨[1, 0, 0, 1, 2, 0, 0, 0, 0, 0, 0, 0, 0, 0, 0, 0, 0, 0, 0, 0, 0, 0, 0, 0, 0, 0, 0, 0], [], [], [], []⟩
def roN : Modes := ⟨[1, 0, 0, 1, 1, 0, 0, 0, 0, 0, 0, 0, 0, 0, 0, 0, 0, 0, 0, 0, 0, 0, 0, 0, 0, 0, 0, 0], [], [], [], []⟩
def roN' : Modes := ⟨[1, 0, 1, 1, 0, 0, 0, 0, 0, 0, 0, 0, 0, 0, 0, 0, 0, 0, 0, 0, 0, 0, 0, 0, 0, 0, 0, 0], [], [], [], []⟩
def roI (l : List En) (p : Nat) : Prop := p ≤ l.length ∧ ∀ i, i < p → ∀ k, k < l.length → i < k → abE (at' l k) (at' l i) = false
def roI2 (l : List En) (p k : Nat) : Prop := p < k ∧ k ≤ l.length ∧ ∀ j, p < j → j < k → abE (at' l j) (at' l p) = false
def roH (l : List En) : List Hint := [.linv _ 0 (roSt l) (roI l) (fun p => l.length + 1 - p) roM0 roM roM' (fun _ => []) fun p =>
  [.fork [.nw, .linv _ (p + 1) (roSt2 l p) (roI2 l p) (fun k => l.length + 1 - k) roN0 roN roN' (fun _ => [.nw]) fun k =>
    [.fork [.dy, .cell (enE (at' l k)), .dy, .cell (enE (at' l p)), .fork [] [.nw]] []]] []]]

def ofSt (F : List En → List AV) (l : List En) (p : Nat) : St :=
  ⟨[.any, .any, .any, .vsl 1 0 p, .any, .any, .vsl 0 0 (l.map enE).length, .int .i64 (l.map enE).length, .int .i64 p, .any, .any, .any, .any, .any, .any, .any, .any, .any, .any], [some ⟨false, 42, 6, true, l.map enE⟩, some ⟨true, 54, 6, true, F (l.take p)⟩]⟩
def ofM0 : Modes := ⟨[0, 0, 0, 1, 0, 0, 1, 1, 2, 0, 0, 0, 0, 0, 0, 0, 0, 0, 0], [], [], [], [(3, 54, 6)]⟩
def ofM : Modes := ⟨[0, 0, 0, 1, 0, 0, 1, 1, 1, 0, 0, 0, 0, 0, 0, 0, 0, 0, 0], [], [], [], []⟩
def ofH (F : List En → List AV) (l : List En) : List Hint := [.linv _ 0 (ofSt F l) (fun p => p ≤ l.length) (fun p => l.length + 1 - p) ofM0 ofM ofM (fun _ => []) fun p =>
  [.fork [.dy, .cell (enE (at' l p)), .rows (F (l.take (p + 1))), .nw] []]]

def rtellF : List Arg → (Res → Prop) → Prop
  | [.row r_l, .v (.agg [.w64 a, .w64 b])], R => r_l = (deE r_l).map enE ∧ (deE r_l).length ≤ 9223372036854775807 ∧ R (.v (.int .i64 (tlI (deE r_l) a b)))
  | _, _ => False

noncomputable def rtellCs : List (FuncId × Sx.Spec) := [(100, genSpec [pRefE, none] rbestF)]

theorem rtell_run (l : List En) (a b : BitVec 64) (r : AV) : run rtellCs Try.prog 69 [.vsl 0 0 (l.map enE).length, .agg [.w64 a, .w64 b]] [some ⟨false, (pRefE.getD (0, 0)).1, (pRefE.getD (0, 0)).2, true, (l.map enE)⟩] [.fork [] [.dy, .cell (.int .i64 (at' l (bsI l a b).toNat).act)]] (yields (.v r)) =
    ((0 : Nat) + List.length (List.map enE l) ≤ List.length (List.map enE l) ∧ List.take (List.length (List.map enE l)) (List.drop 0 (List.map enE l)) = List.map enE (deE (List.take (List.length (List.map enE l)) (List.drop 0 (List.map enE l)))) ∧ List.length (deE (List.take (List.length (List.map enE l)) (List.drop 0 (List.map enE l)))) ≤ (9223372036854775807 : Nat) ∧ (Decidable.decide (bsI (deE (List.take (List.length (List.map enE l)) (List.drop 0 (List.map enE l)))) a b < (0 : Int)) = true → AV.int IntKind.i64 0 = r) ∧ (Decidable.decide (bsI (deE (List.take (List.length (List.map enE l)) (List.drop 0 (List.map enE l)))) a b < (0 : Int)) = false → ((0 : Int) ≤ bsI (deE (List.take (List.length (List.map enE l)) (List.drop 0 (List.map enE l)))) a b ∧ bsI (deE (List.take (List.length (List.map enE l)) (List.drop 0 (List.map enE l)))) a b < (↑(List.length (List.map enE l)) : Int)) ∧ Blk.read Proofs.Try.prog (Blk.mk false (54 : TypeId) 6 true (List.map enE l)) 3 ((0 : Nat) + Int.toNat (bsI (deE (List.take (List.length (List.map enE l)) (List.drop 0 (List.map enE l)))) a b)) ((0 : Nat) + (5 : Nat)) = some (AV.int IntKind.i64 (at' l (Int.toNat (bsI l a b))).6) ∧ AV.int IntKind.i64 (at' l (Int.toNat (bsI l a b))).6 = r)) := by kernel_rfl

theorem rtellCs_ok : ∀ e ∈ rtellCs, SpecOK Try.prog e.1 e.2 := by
  intro e he
  simp only [rtellCs, List.mem_cons, List.not_mem_nil, or_false] at he
  rcases he with rfl
  · exact rbest_ok

theorem rtell_ok : SpecOK Try.prog 69 (genSpec [pRefE, none] rtellF) := by
  refine genSpec_ok (run_ok (l := rtellCs) rtellCs_ok mixed noNG) fun l R hF => ?_
  unfold rtellF at hF
  split at hF
  · rename_i r_l a b
    obtain ⟨hr_l, hl, hF⟩ := hF
    generalize deE r_l = l at hr_l hl hF
    subst hr_l
    refine ⟨_, hF, rfl, [.fork [] [.dy, .cell (.int .i64 (at' l (bsI l a b).toNat).act)]], ?_⟩
    show run rtellCs Try.prog _ [.vsl 0 0 (l.map enE).length, .agg [.w64 a, .w64 b]] [some ⟨false, (pRefE.getD (0, 0)).1, (pRefE.getD (0, 0)).2, true, (l.map enE)⟩] _ _
    rw [rtell_run]
    rw [whole_row, deE_map]
    refine ⟨by simp, rfl, hl, fun h => ?_, fun h => ?_⟩
    · unfold tlI
      rw [if_pos (by simpa using h)]
    · simp only [decide_eq_false_iff_not] at h
      have B : 0 ≤ bsI l a b ∧ bsI l a b < ((l.map enE).length : Int) := by
        rcases bsI_spec l a b with ⟨h1, _⟩ | ⟨i, h1, _, h2, _⟩
        · omega
        · rw [h1, List.length_map]; omega
      refine ⟨B, read_rows B.1 B.2 (ref_act _), ?_⟩
      unfold tlI
      rw [if_neg h]
  · exact hF.elim


def rorderedF : List Arg → (Res → Prop) → Prop
  | [.row r_l], R => r_l = (deE r_l).map enE ∧ (deE r_l).length ≤ 9223372036854775807 ∧ R (.v (.bool (orE (deE r_l))))
  | _, _ => False

noncomputable def rorderedCs : List (FuncId × Sx.Spec) := [(47, genSpec [none, none] raboveF)]

theorem rordered_run (l : List En) (r : AV) : run rorderedCs Try.prog 18 [.vsl 0 0 (l.map enE).length] [some ⟨false, (pRefE.getD (0, 0)).1, (pRefE.getD (0, 0)).2, true, (l.map enE)⟩] (roH l) (yields (.v r)) =
    ((St.mk [AV.vsl 0 0 (List.length (List.map enE l)), .any, .any, AV.int IntKind.i64 0, .any, .any, .any, .any, .any, .any, .any, .any, .any, .any, .any, .any, .any, .any, .any, .any, .any, .any, .any, .any, .any, .any, .any, .any] [some (Blk.mk false (54 : TypeId) 6 true (List.map enE l))] = roSt l 0 ∧ roI l 0) ∧ ∀ (p : Nat), roI l p → (Decidable.decide ((↑p : Int) < (↑(List.length (List.map enE l)) : Int)) = true → inRange IntKind.i64 ((↑p : Int) + (1 : Int)) ∧ (St.mk [AV.vsl 0 0 (List.length (List.map enE l)), .any, .any, AV.int IntKind.i64 (↑p : Int), AV.int IntKind.i64 ((↑p : Int) + (1 : Int)), .any, .any, .any, .any, .any, .any, .any, .any, .any, .any, .any, .any, .any, .any, .any, .any, .any, .any, .any, .any, .any, .any, .any] [some (Blk.mk false (54 : TypeId) 6 true (List.map enE l))] = roSt2 l p (p + (1 : Nat)) ∧ roI2 l p (p + (1 : Nat))) ∧ ∀ (p_1 : Nat), roI2 l p p_1 → (Decidable.decide ((↑p_1 : Int) < (↑(List.length (List.map enE l)) : Int)) = true → ((0 : Int) ≤ (↑p_1 : Int) ∧ (↑p_1 : Int) < (↑(List.length (List.map enE l)) : Int)) ∧ Blk.read Proofs.Try.prog (Blk.mk false (54 : TypeId) 6 true (List.map enE l)) 54 ((0 : Nat) + Int.toNat (↑p_1 : Int)) 0 = some (AV.agg [AV.w64 (at' l p_1).1, AV.w64 (at' l p_1).2, AV.w64 (at' l p_1).3, AV.w64 (at' l p_1).4, AV.int IntKind.i64 (at' l p_1).5, AV.int IntKind.i64 (at' l p_1).6]) ∧ ((0 : Int) ≤ (↑p : Int) ∧ (↑p : Int) < (↑(List.length (List.map enE l)) : Int)) ∧ Blk.read Proofs.Try.prog (Blk.mk false (54 : TypeId) 6 true (List.map enE l)) 54 ((0 : Nat) + Int.toNat (↑p : Int)) 0 = some (AV.agg [AV.w64 (at' l p).1, AV.w64 (at' l p).2, AV.w64 (at' l p).3, AV.w64 (at' l p).4, AV.int IntKind.i64 (at' l p).5, AV.int IntKind.i64 (at' l p).6]) ∧ (abE (En.mk (at' l p_1).1 (at' l p_1).2 (at' l p_1).3 (at' l p_1).4 (at' l p_1).5 (at' l p_1).6) (En.mk (at' l p).1 (at' l p).2 (at' l p).3 (at' l p).4 (at' l p).5 (at' l p).6) = true → AV.bool false = r) ∧ (abE (En.mk (at' l p_1).1 (at' l p_1).2 (at' l p_1).3 (at' l p_1).4 (at' l p_1).5 (at' l p_1).6) (En.mk (at' l p).1 (at' l p).2 (at' l p).3 (at' l p).4 (at' l p).5 (at' l p).6) = false → inRange IntKind.i64 ((↑p_1 : Int) + (1 : Int)) ∧ ∃ (p' : Nat), St.mk [AV.vsl 0 0 (List.length (List.map enE l)), .any, .any, AV.int IntKind.i64 (↑p : Int), AV.int IntKind.i64 ((↑p_1 : Int) + (1 : Int)), .any, .any, .any, .any, .any, .any, .any, .any, .any, .any, .any, .any, .any, .any, .any, .any, .any, .any, .any, .any, .any, .any, .any] [some (Blk.mk false (54 : TypeId) 6 true (List.map enE l))] = roSt2 l p p' ∧ roI2 l p p' ∧ List.length l + (1 : Nat) - p' < List.length l + (1 : Nat) - p_1)) ∧ (Decidable.decide ((↑p_1 : Int) < (↑(List.length (List.map enE l)) : Int)) = false → inRange IntKind.i64 ((↑p : Int) + (1 : Int)) ∧ ∃ (p' : Nat), St.mk [AV.vsl 0 0 (List.length (List.map enE l)), .any, .any, AV.int IntKind.i64 ((↑p : Int) + (1 : Int)), .any, .any, .any, .any, .any, .any, .any, .any, .any, .any, .any, .any, .any, .any, .any, .any, .any, .any, .any, .any, .any, .any, .any, .any] [some (Blk.mk false (54 : TypeId) 6 true (List.map enE l))] = roSt l p' ∧ roI l p' ∧ List.length l + (1 : Nat) - p' < List.length l + (1 : Nat) - p)) ∧ (Decidable.decide ((↑p : Int) < (↑(List.length (List.map enE l)) : Int)) = false → AV.bool true = r)) := by kernel_rfl

theorem rorderedCs_ok : ∀ e ∈ rorderedCs, SpecOK Try.prog e.1 e.2 := by
  intro e he
  simp only [rorderedCs, List.mem_cons, List.not_mem_nil, or_false] at he
  rcases he with rfl
  · exact rabove_ok

theorem rordered_ok : SpecOK Try.prog 18 (genSpec [pRefE] rorderedF) := by
  refine genSpec_ok (run_ok (l := rorderedCs) rorderedCs_ok mixed noNG) fun l R hF => ?_
  unfold rorderedF at hF
  split at hF
  · rename_i r_l
    obtain ⟨hr_l, hl, hF⟩ := hF
    generalize deE r_l = l at hr_l hl hF
    subst hr_l
    refine ⟨_, hF, rfl, (roH l), ?_⟩
    show run rorderedCs Try.prog _ [.vsl 0 0 (l.map enE).length] [some ⟨false, (pRefE.getD (0, 0)).1, (pRefE.getD (0, 0)).2, true, (l.map enE)⟩] _ _
    rw [rordered_run]
    refine ⟨⟨rfl, Nat.zero_le _, fun i hi => by omega⟩, ?_⟩
    rintro p ⟨h1, h2⟩
    refine ⟨fun hlt => ?_, fun hge => ?_⟩
    · have hp : p < l.length := by simp only [decide_eq_true_eq, List.length_map] at hlt; omega
      have Bp : 0 ≤ (p : Int) ∧ (p : Int) < ((l.map enE).length : Int) := by rw [List.length_map]; omega
      refine ⟨inR (by omega) (by omega), ⟨rfl, by omega, by omega, fun j h3 h4 => by omega⟩, ?_⟩
      rintro k ⟨h3, h4, h5⟩
      refine ⟨fun hlt => ?_, fun hge => ?_⟩
      · have hk : k < l.length := by simp only [decide_eq_true_eq, List.length_map] at hlt; omega
        have Bk : 0 ≤ (k : Int) ∧ (k : Int) < ((l.map enE).length : Int) := by rw [List.length_map]; omega
        refine ⟨Bk, read_rows Bk.1 Bk.2 (ref_whole _), Bp, read_rows Bp.1 Bp.2 (ref_whole _), fun ha => ?_, fun ha => ⟨inR (by omega) (by omega), k + 1, rfl, ⟨by omega, by omega, fun j h6 h7 => ?_⟩, by omega⟩⟩
        · rw [notT orE_iff fun h => by
            have := h p hp k hk h3
            rw [show abE (at' l k) (at' l p) = true from ha] at this; cases this]
        · rcases Nat.lt_or_eq_of_le (Nat.le_of_lt_succ h7) with h | rfl
          · exact h5 j h6 h
          · exact ha
      · have hk : k = l.length := by simp only [decide_eq_false_iff_not, List.length_map] at hge; omega
        subst hk
        refine ⟨inR (by omega) (by omega), p + 1, rfl, ⟨by omega, fun i hi k hk hik => ?_⟩, by omega⟩
        rcases Nat.lt_or_eq_of_le (Nat.le_of_lt_succ hi) with h | rfl
        · exact h2 i h k hk hik
        · exact h5 k hik hk
    · have hp : p = l.length := by simp only [decide_eq_false_iff_not, List.length_map] at hge; omega
      subst hp
      rw [orE_iff.2 h2]
  · exact hF.elim


def rcompareF : List Arg → (Res → Prop) → Prop
  | [.v (.agg [.w64 v, .w64 w, .w64 m, .w64 n, .int .i64 k, .int .i64 j]), .v (.agg [.w64 c, .w64 d, .w64 p, .w64 q, .int .i64 s, .int .i64 t])], R => R (.v (.int .i64 (cpE ⟨v, w, m, n, k, j⟩ ⟨c, d, p, q, s, t⟩)))
  | _, _ => False

theorem en_whole (x : En) : partOf Try.prog 42 (enE x).cells 0 = some (enE x) := by kernel_rfl

def pEn : Par := some (42, 6)

def of5F : List Arg → (Res → Prop) → Prop
  | [.row r_l], R => r_l = (deE r_l).map enE ∧ (deE r_l).length ≤ 1000000 ∧ R (.vrow 54 6 ((deE r_l).map enE))
  | _, _ => False

theorem of5_run (l : List En) (F : List En → List AV) (es : List AV) : run [] Try.prog 17 [.vsl 0 0 (l.map enE).length] [some ⟨false, (pEn.getD (0, 0)).1, (pEn.getD (0, 0)).2, true, (l.map enE)⟩] (ofH F l) (yields (.vrow 54 6 es)) =
    ((St.mk [.any, .any, .any, AV.vsl (List.length [some (Blk.mk false (42 : TypeId) 6 true (List.map enE l))]) 0 0, .any, .any, AV.vsl 0 0 (List.length (List.map enE l)), AV.int IntKind.i64 (↑(List.length (List.map enE l)) : Int), AV.int IntKind.i64 0, .any, .any, .any, .any, .any, .any, .any, .any, .any, .any] ([some (Blk.mk false (42 : TypeId) 6 true (List.map enE l))] ++ [some (Blk.mk true (54 : TypeId) 6 true [])]) = ofSt F l 0 ∧ Nat.le 0 (List.length l)) ∧ ∀ (p : Nat), Nat.le p (List.length l) → (Decidable.decide ((↑p : Int) < (↑(List.length (List.map enE l)) : Int)) = true → ((0 : Int) ≤ (↑p : Int) ∧ (↑p : Int) < (↑(List.length (List.map enE l)) : Int)) ∧ Blk.read Proofs.Try.prog (Blk.mk false (42 : TypeId) 6 true (List.map enE l)) 42 ((0 : Nat) + Int.toNat (↑p : Int)) 0 = some (AV.agg [AV.w64 (at' l p).1, AV.w64 (at' l p).2, AV.w64 (at' l p).3, AV.w64 (at' l p).4, AV.int IntKind.i64 (at' l p).5, AV.int IntKind.i64 (at' l p).6]) ∧ ((p + (1 : Nat)) * (48 : Nat) ≤ (140737488355328 : Nat) ∧ p + (1 : Nat) ≤ (9223372036854775807 : Nat) ∧ (0 : Nat) + (1 : Nat) ≤ List.length [AV.agg [AV.w64 (at' l p).1, AV.w64 (at' l p).2, AV.w64 (at' l p).3, AV.w64 (at' l p).4, AV.int IntKind.i64 (at' l p).5, AV.int IntKind.i64 (at' l p).6]] ∧ p ≤ List.length (F (List.take p l))) ∧ List.take p (F (List.take p l)) ++ [AV.agg [AV.w64 (at' l p).1, AV.w64 (at' l p).2, AV.w64 (at' l p).3, AV.w64 (at' l p).4, AV.int IntKind.i64 (at' l p).5, AV.int IntKind.i64 (at' l p).6]] = F (List.take (p + (1 : Nat)) l) ∧ inRange IntKind.i64 ((↑p : Int) + (1 : Int)) ∧ ∃ (p' : Nat), St.mk [.any, .any, .any, AV.vsl ((0 : Nat) + (1 : Nat)) 0 (p + (1 : Nat)), .any, .any, AV.vsl 0 0 (List.length (List.map enE l)), AV.int IntKind.i64 (↑(List.length (List.map enE l)) : Int), AV.int IntKind.i64 ((↑p : Int) + (1 : Int)), .any, .any, .any, .any, .any, .any, .any, .any, .any, .any] [some (Blk.mk false (42 : TypeId) 6 true (List.map enE l)), some (Blk.mk true 54 6 true (F (List.take (p + (1 : Nat)) l)))] = ofSt F l p' ∧ Nat.le p' (List.length l) ∧ List.length l + (1 : Nat) - p' < List.length l + (1 : Nat) - p) ∧ (Decidable.decide ((↑p : Int) < (↑(List.length (List.map enE l)) : Int)) = false → p = List.length es ∧ some (Blk.mk true (54 : TypeId) 6 true (F (List.take p l))) = some (Blk.mk true (54 : TypeId) 6 true es))) := by kernel_rfl

theorem of5_ok : SpecOK Try.prog 17 (genSpec [pEn] of5F) := by
  refine genSpec_ok none_ok fun l R hF => ?_
  unfold of5F at hF
  split at hF
  · rename_i r_l
    obtain ⟨hr_l, hl, hF⟩ := hF
    generalize deE r_l = l at hr_l hl hF
    subst hr_l
    refine ⟨_, hF, trivial, (ofH (List.map enE) l), ?_⟩
    show run [] Try.prog _ [.vsl 0 0 (l.map enE).length] [some ⟨false, (pEn.getD (0, 0)).1, (pEn.getD (0, 0)).2, true, (l.map enE)⟩] _ _
    rw [of5_run]
    have lt : ∀ p, p ≤ l.length → ((l.take p).map enE).length = p := fun p hp => by rw [List.length_map, List.length_take]; omega
    refine ⟨⟨rfl, Nat.zero_le _⟩, ?_⟩
    intro p hp
    have hp : p ≤ l.length := hp
    refine ⟨fun hlt => ?_, fun hge => ?_⟩
    · have hlt : p < l.length := by simp only [decide_eq_true_eq, List.length_map] at hlt; omega
      have B : 0 ≤ (p : Int) ∧ (p : Int) < ((l.map enE).length : Int) := by rw [List.length_map]; omega
      refine ⟨B, read_rows B.1 B.2 (en_whole _), ⟨by omega, by omega, by simp, by rw [lt p hp]; omega⟩, ?_, inR (by omega) (by omega), p + 1, rfl, (by omega : p + 1 ≤ l.length), by omega⟩
      rw [List.take_of_length_le (by rw [lt p hp]; omega), List.take_add_one, at_get hlt, List.map_append]
      rfl
    · have hp : p = l.length := by simp only [decide_eq_false_iff_not, List.length_map] at hge; omega
      subst hp
      rw [List.take_length, List.length_map]
      exact ⟨rfl, rfl⟩
  · exact hF.elim


end Go.Proofs.Ytnjbgbdcbejciaa.L1
end

section
/-
  Layer 5: the contract of the document's Sort.
-/
namespace Go.Proofs.Ytnjbgbdcbejciaa.L1
open Go.Sx Go.Sx.M

end Go.Proofs.Ytnjbgbdcbejciaa.L1
end

section
/-
  Layer 5: what the contracts of the program's calls on entries say.
-/
namespace Go.Proofs.Ytnjbgbdcbejciaa.L1
open Go.Sx Go.Sx.M

def erightF : List Arg → (Res → Prop) → Prop
  | [.v (.agg [.w64 v, .w64 w, .w64 m, .w64 n, .int .i64 k, .int .i64 j])], R => R (.v (.bool (rtE ⟨v, w, m, n, k, j⟩)))
  | _, _ => False

def eofF : List Arg → (Res → Prop) → Prop
  | [.v (.agg [.w64 a, .w64 b, .int .i64 k]), .v (.int .i64 j)], R => R (.v (.agg [.w64 (a &&& mkW k), .w64 (b &&& mkW (k - 64)), .w64 (mkW k), .w64 (mkW (k - 64)), .int .i64 (clamp k), .int .i64 j]))
  | _, _ => False

def efirstF : List Arg → (Res → Prop) → Prop
  | [.row r_l, .v (.agg [.w64 a, .w64 b])], R => r_l = (deE r_l).map enE ∧ (deE r_l).length ≤ 9223372036854775807 ∧ R (.v (.tuple [.int .i64 (mx0 (fsI (deE r_l) a b)), .bool (decide (fsI (deE r_l) a b ≥ 0))]))
  | _, _ => False

def ealikeF : List Arg → (Res → Prop) → Prop
  | [.v (.agg [.w64 v, .w64 w, .w64 m, .w64 n, .int .i64 k, .int .i64 _]), .v (.agg [.w64 c, .w64 d, .w64 p, .w64 q, .int .i64 s, .int .i64 _])], R => R (.v (.bool (alE ⟨v, w, m, n, k, 0⟩ ⟨c, d, p, q, s, 0⟩)))
  | _, _ => False

def esortF : List Arg → (Res → Prop) → Prop
  | [.row r_l], R => r_l = (deE r_l).map enE ∧ (deE r_l).length ≤ 1000000 ∧ R (.vrow 42 6 ((srE (deE r_l)).map enE))
  | _, _ => False

end Go.Proofs.Ytnjbgbdcbejciaa.L1
end

section
/-
  Layer 5: contracts of the program's calls on entries: Right, Of, Above, Ordered, First, Best, Tell, Compare, Alike.
-/
namespace Go.Proofs.Ytnjbgbdcbejciaa.L1
open Go.Sx Go.Sx.M

def pInt5 : Par := some (3, 1)

def cmpzF : List Arg → (Res → Prop) → Prop
  | [.v (.int .i64 m), .v (.int .i64 n)], R => R (.v (.int .i64 (cmpZ m n)))
  | _, _ => False

def or4F : List Arg → (Res → Prop) → Prop
  | [.row [.int .i64 a, .int .i64 b, .int .i64 c, .int .i64 d]], R => R (.v (.int .i64 (orZ a (orZ b (orZ c d)))))
  | _, _ => False

theorem cmpz_run (m n : Int) (r : AV) : run [] Try.prog 97 [.int .i64 m, .int .i64 n] [] [.br false, .br false, .fork [] [.fork [] []]] (yields (.v r)) =
    ((m != m) = false ∧ (n != n) = false ∧ (Decidable.decide (m < n) = true → AV.int IntKind.i64 (-1 : Int) = r) ∧ (Decidable.decide (m < n) = false → (Decidable.decide (m > n) = true → AV.int IntKind.i64 (1 : Int) = r) ∧ (Decidable.decide (m > n) = false → AV.int IntKind.i64 (0 : Int) = r))) := by kernel_rfl

theorem cmpz_ok : SpecOK Try.prog 97 (genSpec [none, none] cmpzF) := by
  refine genSpec_ok none_ok fun l R hF => ?_
  unfold cmpzF at hF
  split at hF
  · rename_i m n
    refine ⟨_, hF, rfl, [.br false, .br false, .fork [] [.fork [] []]], ?_⟩
    show run [] Try.prog _ [.int .i64 m, .int .i64 n] [] _ _
    rw [cmpz_run]
    simp only [decide_eq_true_eq, decide_eq_false_iff_not]
    refine ⟨by simp, by simp, fun h => ?_, fun h => ⟨fun h2 => ?_, fun h2 => ?_⟩⟩
    all_goals
      congr 1
      unfold cmpZ
    · rw [if_pos h]
    · rw [if_neg h, if_pos (by omega)]
    · rw [if_neg h, if_neg (by omega)]
  · exact hF.elim


theorem or4_run (a b c d : Int) (r : AV) : run [] Try.prog 96 [.vsl 0 0 4] [some ⟨false, 3, 1, true, [.int .i64 a, .int .i64 b, .int .i64 c, .int .i64 d]⟩] [.loop 5, .br true, .cell (.int .i64 a), .fork [] [.br true, .cell (.int .i64 b), .fork [] [.br true, .cell (.int .i64 c), .fork [] [.br true, .cell (.int .i64 d), .fork [] [.br false]]]]] (yields (.v r)) =
    (Decidable.decide ((0 : Int) < (↑(4 : Nat) : Int)) = true ∧ ((0 : Int) ≤ (0 : Int) ∧ (0 : Int) < (↑(4 : Nat) : Int)) ∧ Blk.read Proofs.Try.prog (Blk.mk false (3 : TypeId) 1 true [AV.int IntKind.i64 a, AV.int IntKind.i64 b, AV.int IntKind.i64 c, AV.int IntKind.i64 d]) 3 ((0 : Nat) + Int.toNat 0) 0 = some (AV.int IntKind.i64 a) ∧ ((a != (0 : Int)) = true → AV.int IntKind.i64 a = r) ∧ ((a != (0 : Int)) = false → Decidable.decide ((1 : Int) < (↑(4 : Nat) : Int)) = true ∧ ((0 : Int) ≤ (1 : Int) ∧ (1 : Int) < (↑(4 : Nat) : Int)) ∧ Blk.read Proofs.Try.prog (Blk.mk false (3 : TypeId) 1 true [AV.int IntKind.i64 a, AV.int IntKind.i64 b, AV.int IntKind.i64 c, AV.int IntKind.i64 d]) 3 ((0 : Nat) + Int.toNat 1) 0 = some (AV.int IntKind.i64 b) ∧ ((b != (0 : Int)) = true → AV.int IntKind.i64 b = r) ∧ ((b != (0 : Int)) = false → Decidable.decide ((2 : Int) < (↑(4 : Nat) : Int)) = true ∧ ((0 : Int) ≤ (2 : Int) ∧ (2 : Int) < (↑(4 : Nat) : Int)) ∧ Blk.read Proofs.Try.prog (Blk.mk false (3 : TypeId) 1 true [AV.int IntKind.i64 a, AV.int IntKind.i64 b, AV.int IntKind.i64 c, AV.int IntKind.i64 d]) 3 ((0 : Nat) + Int.toNat 2) 0 = some (AV.int IntKind.i64 c) ∧ ((c != (0 : Int)) = true → AV.int IntKind.i64 c = r) ∧ ((c != (0 : Int)) = false → Decidable.decide ((3 : Int) < (↑(4 : Nat) : Int)) = true ∧ ((0 : Int) ≤ (3 : Int) ∧ (3 : Int) < (↑(4 : Nat) : Int)) ∧ Blk.read Proofs.Try.prog (Blk.mk false (3 : TypeId) 1 true [AV.int IntKind.i64 a, AV.int IntKind.i64 b, AV.int IntKind.i64 c, AV.int IntKind.i64 d]) 3 ((0 : Nat) + Int.toNat 3) 0 = some (AV.int IntKind.i64 d) ∧ ((d != (0 : Int)) = true → AV.int IntKind.i64 d = r) ∧ ((d != (0 : Int)) = false → Decidable.decide ((4 : Int) < (↑(4 : Nat) : Int)) = false ∧ AV.int IntKind.i64 0 = r))))) := by kernel_rfl

theorem or4_ok : SpecOK Try.prog 96 (genSpec [pInt5] or4F) := by
  refine genSpec_ok none_ok fun l R hF => ?_
  unfold or4F at hF
  split at hF
  · rename_i a b c d
    refine ⟨_, hF, rfl, [.loop 5, .br true, .cell (.int .i64 a), .fork [] [.br true, .cell (.int .i64 b), .fork [] [.br true, .cell (.int .i64 c), .fork [] [.br true, .cell (.int .i64 d), .fork [] [.br false]]]]], ?_⟩
    show run [] Try.prog _ [.vsl 0 0 4] [some ⟨false, 3, 1, true, [.int .i64 a, .int .i64 b, .int .i64 c, .int .i64 d]⟩] _ _
    rw [or4_run]
    refine ⟨by decide, by decide, by kernel_rfl, fun h => ?_, fun h => ⟨by decide, by decide, by kernel_rfl, fun h2 => ?_, fun h2 => ⟨by decide, by decide, by kernel_rfl, fun h3 => ?_, fun h3 => ⟨by decide, by decide, by kernel_rfl, fun h4 => ?_, fun h4 => ⟨by decide, ?_⟩⟩⟩⟩⟩
    all_goals
      congr 1
      unfold orZ
      simp only [bne_iff_ne, ne_eq, bne_eq_false_iff_eq] at *
    · rw [if_neg h]
    · rw [if_pos h, if_neg h2]
    · rw [if_pos h, if_pos h2, if_neg h3]
    · rw [if_pos h, if_pos h2, if_pos h3]
    · rw [if_pos h, if_pos h2, if_pos h3, h4]
  · exact hF.elim


noncomputable def eofCs : List (FuncId × Sx.Spec) := [(37, genSpec [none, none] makeF),
  (91, genSpec [none] wofF)]

theorem eof_run (a b : BitVec 64) (k j : Int) (r : AV) : run eofCs Try.prog 58 [.agg [.w64 a, .w64 b, .int .i64 k], .int .i64 j] [] [] (yields (.v r)) =
    (AV.agg [AV.w64 (a &&& mkW k &&& mkW (clamp k)), AV.w64 (b &&& mkW (k - (64 : Int)) &&& mkW (clamp k - (64 : Int))), AV.w64 (mkW (clamp k)), AV.w64 (mkW (clamp k - (64 : Int))), AV.int IntKind.i64 (clamp k), AV.int IntKind.i64 j] = r) := by kernel_rfl

theorem eofCs_ok : ∀ e ∈ eofCs, SpecOK Try.prog e.1 e.2 := by
  intro e he
  simp only [eofCs, List.mem_cons, List.not_mem_nil, or_false] at he
  rcases he with rfl | rfl
  · exact pmake_ok
  · exact wof_ok

theorem eof_ok : SpecOK Try.prog 58 (genSpec [none, none] eofF) := by
  refine genSpec_ok (run_ok (l := eofCs) eofCs_ok mixed noNG) fun l R hF => ?_
  unfold eofF at hF
  split at hF
  · rename_i a b k j
    refine ⟨_, hF, rfl, [], ?_⟩
    show run eofCs Try.prog _ [.agg [.w64 a, .w64 b, .int .i64 k], .int .i64 j] [] _ _
    rw [eof_run]
    rw [(mkW_clamp k).1, (mkW_clamp k).2, BitVec.and_assoc, BitVec.and_self, BitVec.and_assoc, BitVec.and_self]
  · exact hF.elim


theorem ealike_run (v w m n : BitVec 64) (k j : Int) (c d p q : BitVec 64) (s t : Int) (r : AV) : run [] Try.prog 63 [.agg [.w64 v, .w64 w, .w64 m, .w64 n, .int .i64 k, .int .i64 j], .agg [.w64 c, .w64 d, .w64 p, .w64 q, .int .i64 s, .int .i64 t]] [] [.fork [] []] (yields (.v r)) =
    (((v == c && w == d && (m == p && n == q)) = true → AV.bool (k == s) = r) ∧ ((v == c && w == d && (m == p && n == q)) = false → AV.bool false = r)) := by kernel_rfl

theorem ealike_ok : SpecOK Try.prog 63 (genSpec [none, none] ealikeF) := by
  refine genSpec_ok none_ok fun l R hF => ?_
  unfold ealikeF at hF
  split at hF
  · rename_i v w m n k j c d p q s t
    refine ⟨_, hF, rfl, [.fork [] []], ?_⟩
    show run [] Try.prog _ [.agg [.w64 v, .w64 w, .w64 m, .w64 n, .int .i64 k, .int .i64 j], .agg [.w64 c, .w64 d, .w64 p, .w64 q, .int .i64 s, .int .i64 t]] [] _ _
    rw [ealike_run]
    refine ⟨fun h => ?_, fun h => ?_⟩
    · unfold alE
      rw [show (v == c && w == d && (m == p && n == q)) = true from h, Bool.true_and]
    · unfold alE
      rw [show (v == c && w == d && (m == p && n == q)) = false from h, Bool.false_and]
  · exact hF.elim


noncomputable def ecompareCs : List (FuncId × Sx.Spec) := [(98, genSpec [none, none] cmpF),
  (97, genSpec [none, none] cmpzF),
  (96, genSpec [pInt5] or4F)]

noncomputable def ecompare_run_cut0 (v w m n : BitVec 64) (k j : Int) (c d p q : BitVec 64) (s t : Int) : St := St.mk [AV.any, AV.any, AV.any, AV.any, AV.int IntKind.i64 (orZ (cmpZ s k) (orZ (cmpV (V v w) (V c d)) (orZ (cmpV (V m n) (V p q)) (cmpZ j t)))), AV.any, AV.any, AV.any, AV.any, AV.any, AV.any, AV.any, AV.any, AV.any, AV.any, AV.any, AV.any, AV.any, AV.any, AV.any, AV.any, AV.any, AV.any, AV.any, AV.any, AV.any, AV.any, AV.any, AV.any, AV.any, AV.any] []

theorem ecompare_run (v w m n : BitVec 64) (k j : Int) (c d p q : BitVec 64) (s t : Int) (r : AV) : run ecompareCs Try.prog 67 [.agg [.w64 v, .w64 w, .w64 m, .w64 n, .int .i64 k, .int .i64 j], .agg [.w64 c, .w64 d, .w64 p, .w64 q, .int .i64 s, .int .i64 t]] [] [.cut 31 [4] (ecompare_run_cut0 v w m n k j c d p q s t) []] (yields (.v r)) =
    ((∃ (_ : Unit), (ecompare_run_cut0 v w m n k j c d p q s t) = (ecompare_run_cut0 v w m n k j c d p q s t) ∧ True) ∧ ∀ (_ : Unit), True → AV.int IntKind.i64 (orZ (cmpZ s k) (orZ (cmpV (V v w) (V c d)) (orZ (cmpV (V m n) (V p q)) (cmpZ j t)))) = r) := by kernel_rfl

theorem ecompareCs_ok : ∀ e ∈ ecompareCs, SpecOK Try.prog e.1 e.2 := by
  intro e he
  simp only [ecompareCs, List.mem_cons, List.not_mem_nil, or_false] at he
  rcases he with rfl | rfl | rfl
  · exact acmp_ok
  · exact cmpz_ok
  · exact or4_ok

theorem ecompare_ok : SpecOK Try.prog 67 (genSpec [none, none] rcompareF) := by
  refine genSpec_ok (run_ok (l := ecompareCs) ecompareCs_ok mixed noNG) fun l R hF => ?_
  unfold rcompareF at hF
  split at hF
  · rename_i v w m n k j c d p q s t
    refine ⟨_, hF, rfl, [.cut 31 [4] (ecompare_run_cut0 v w m n k j c d p q s t) []], ?_⟩
    show run ecompareCs Try.prog _ [.agg [.w64 v, .w64 w, .w64 m, .w64 n, .int .i64 k, .int .i64 j], .agg [.w64 c, .w64 d, .w64 p, .w64 q, .int .i64 s, .int .i64 t]] [] _ _
    rw [ecompare_run]
    exact ⟨⟨(), rfl, trivial⟩, fun _ _ => rfl⟩
  · exact hF.elim


end Go.Proofs.Ytnjbgbdcbejciaa.L1
end

