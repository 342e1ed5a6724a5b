/-
  Texts in one: L8P L8R L8Q.
-/
import Derived.Test.YteagcgocmdjobaaL8a
import Derived.Test.YteagcgocmdjobaaL5P
import Derived.Test.YteagcgocmdjobaaL5B

section
/-
  Layer 8: contracts of the program's calls: May, the search, Tell, Free, Entries, Apply.
-/
namespace Go.Proofs.Yteagcgocmdjobaa.L1
open Go.Sx Go.Sx.M

def find8F : List Arg → (Res → Prop) → Prop
  | [.row r_l, .v (.agg [.w64 a, .w64 b])], R => r_l = (deS r_l).map slE ∧ (deS r_l).length ≤ 9223372036854775807 ∧ R (.v (.tuple [.int .i64 (mx0 (fnS (deS r_l) a b)), .bool (decide (fnS (deS r_l) a b ≥ 0))]))
  | _, _ => False

def clone8F : List Arg → (Res → Prop) → Prop
  | [.row r_l], R => r_l = (deS r_l).map slE ∧ (deS r_l).length ≤ 1000000 ∧ R (.vrow 37 7 ((deS r_l).map slE))
  | _, _ => False

/-- The search: the closure that it makes; the state of slices.IndexFunc's loop. -/
def gfFn : AV := .func (.func 51) [] [.ptr 1 0 0 true]
def gfSt (l : List Sl) (a b : BitVec 64) (p : Nat) : St :=
  ⟨[.vsl 0 0 (l.map slE).length, gfFn, .any, .any, .any, .any, .any, .int .i64 (l.map slE).length, .int .i64 p, .any, .any, .any, .any, .any, .any, .any, .any, .any, .any], [some ⟨false, 37, 7, true, l.map slE⟩, some ⟨true, 31, 2, true, [.agg [.w64 a, .w64 b]]⟩]⟩
def gfM0 : Modes := ⟨[1, 1, 0, 0, 0, 0, 0, 1, 2, 0, 0, 0, 0, 0, 0, 0, 0, 0, 0], [], [], [], []⟩
def gfM : Modes := ⟨[1, 1, 0, 0, 0, 0, 0, 1, 1, 0, 0, 0, 0, 0, 0, 0, 0, 0, 0], [], [], [], []⟩
def gfM' : Modes := ⟨[0, 0, 0, 0, 2, 0, 0, 0, 0, 0, 0, 0, 0, 0, 0, 0, 0, 0, 0], [], [], [], []⟩
def gfH (l : List Sl) (a b : BitVec 64) : List Hint := [.linv _ 0 (gfSt l a b) (fnI l a b) (fun p => l.length + 1 - p) gfM0 gfM gfM' (fun _ => []) fun p =>
  [.fork [.dy, .cell (slE (at' l p)), .fork [.fork [] [.nw]] [.nw]] []]]

/-- Free. -/
def gcSt (l : List Sl) (p : Nat) : St :=
  ⟨[.any, .any, .any, .int .i64 (frS (l.take p)), .any, .any, .vsl 0 0 (l.map slE).length, .int .i64 (l.map slE).length, .int .i64 p, .any, .any, .any, .any, .any, .any, .any, .any, .any, .any], [some ⟨false, 37, 7, true, l.map slE⟩]⟩
def gcM0 : Modes := ⟨[0, 0, 0, 2, 0, 0, 1, 1, 2, 0, 0, 0, 0, 0, 0, 0, 0, 0, 0], [], [], [], []⟩
def gcM : Modes := ⟨[0, 0, 0, 1, 0, 0, 1, 1, 1, 0, 0, 0, 0, 0, 0, 0, 0, 0, 0], [], [], [], []⟩
def gcM' : Modes := ⟨[0, 0, 0, 1, 0, 0, 0, 0, 0, 0, 0, 0, 0, 0, 0, 0, 0, 0, 0], [], [], [], []⟩
def gcH (l : List Sl) : List Hint := [.linv _ 0 (gcSt l) (fun p => p ≤ l.length) (fun p => l.length + 1 - p) gcM0 gcM gcM' (fun _ => []) fun p =>
  [.fork [.dy, .cell (slE (at' l p)), .fork [.nw, .nw] [.nw]] []]]

/-- Entries. -/
def gnSt (F : List En → List AV) (l : List Sl) (p : Nat) : St :=
  ⟨[.any, .any, .any, .vsl 1 0 (ensS (l.take p)).length, .any, .any, .vsl 0 0 (l.map slE).length, .int .i64 (l.map slE).length, .int .i64 p, .any, .any, .any, .any, .any, .any, .any, .any, .any, .any, .any, .any], [some ⟨false, 37, 7, true, l.map slE⟩, some ⟨true, 35, 6, true, F (ensS (l.take p))⟩]⟩
def gnM0 : Modes := ⟨[0, 0, 0, 1, 0, 0, 1, 1, 2, 0, 0, 0, 0, 0, 0, 0, 0, 0, 0, 0, 0], [], [], [], [(3, 35, 6)]⟩
def gnM : Modes := ⟨[0, 0, 0, 1, 0, 0, 1, 1, 1, 0, 0, 0, 0, 0, 0, 0, 0, 0, 0, 0, 0], [], [], [], []⟩
def gnM' : Modes := ⟨[0, 0, 0, 1, 0, 0, 0, 0, 0, 0, 0, 0, 0, 0, 0, 0, 0, 0, 0, 0, 0], [], [], [], []⟩
def gnH (F : List En → List AV) (l : List Sl) : List Hint := [.linv _ 0 (gnSt F l) (fun p => p ≤ l.length) (fun p => l.length + 1 - p) gnM0 gnM gnM' (fun _ => []) fun p =>
  [.fork [.dy, .cell (slE (at' l p)), .fork [.rows (F (ensS (l.take (p + 1)))), .nw] [.nw]] []]]

/-- Apply. -/
def gaSt (F : List Sl → List AV) (l : List Sl) (w : List Wr) (p : Nat) : St :=
  ⟨[.any, .any, .any, .any, .any, .vsl 2 0 (F l).length, .any, .any, .any, .any, .vsl 1 0 (w.map wrE).length, .int .i64 (w.map wrE).length, .int .i64 p, .any, .any, .any, .any, .any, .any, .any, .any, .any, .any, .any, .any, .any, .any, .any], [some ⟨false, 37, 7, true, l.map slE⟩, some ⟨false, 39, 8, true, w.map wrE⟩, some ⟨true, 37, 7, true, F (apL l (w.take p))⟩]⟩
def gaM0 : Modes := ⟨[0, 0, 0, 0, 0, 1, 0, 0, 0, 0, 1, 1, 2, 0, 0, 0, 0, 0, 0, 0, 0, 0, 0, 0, 0, 0, 0, 0], [], [], [], []⟩
def gaM : Modes := ⟨[0, 0, 0, 0, 0, 1, 0, 0, 0, 0, 1, 1, 1, 0, 0, 0, 0, 0, 0, 0, 0, 0, 0, 0, 0, 0, 0, 0], [], [], [], []⟩
def gaM' : Modes := ⟨[0, 0, 0, 0, 0, 1, 0, 0, 0, 0, 0, 0, 0, 0, 0, 0, 0, 0, 0, 0, 0, 0, 0, 0, 0, 0, 0, 0], [], [], [], []⟩
def gaH (F : List Sl → List AV) (l : List Sl) (w : List Wr) : List Hint := [.nm (F l), .linv _ 0 (gaSt F l w) (fun p => p ≤ w.length) (fun p => w.length + 1 - p) gaM0 gaM gaM' (fun _ => []) fun p =>
  [.fork [.dy, .cell (wrE (at' w p)), .fork [.dy, .rows (F (apL l (w.take (p + 1)))), .nw] [.nw]] []]]

noncomputable def gmay8Cs : List (FuncId × Sx.Spec) := [(43, genSpec [none] erightF)]

theorem gmay8_run (p : Int) (o : Bool) (v w m n : BitVec 64) (k j z : Int) (r : AV) : run gmay8Cs Try.prog 27 [.agg [.int .i64 p, .bool o, .w64 v, .w64 w, .w64 m, .w64 n, .int .i64 k, .int .i64 j], .int .i64 z] [] [.fork [.fork [.fork [] [.fork [] []]] []] []] (yields (.v r)) =
    ((Decidable.decide ((0 : Int) ≤ p) = true → (Decidable.decide (p < z) = true → ((o == false && (v == BitVec.ofInt (64 : Nat) (0 : Int) && w == BitVec.ofInt (64 : Nat) (0 : Int) && (m == BitVec.ofInt (64 : Nat) (0 : Int) && n == BitVec.ofInt (64 : Nat) (0 : Int)) && (k == (0 : Int) && j == (0 : Int)))) = true → AV.bool true = r) ∧ ((o == false && (v == BitVec.ofInt (64 : Nat) (0 : Int) && w == BitVec.ofInt (64 : Nat) (0 : Int) && (m == BitVec.ofInt (64 : Nat) (0 : Int) && n == BitVec.ofInt (64 : Nat) (0 : Int)) && (k == (0 : Int) && j == (0 : Int)))) = false → (o = true → AV.bool (rtE (En.mk v w m n k j)) = r) ∧ (o = false → AV.bool false = r))) ∧ (Decidable.decide (p < z) = false → AV.bool false = r)) ∧ (Decidable.decide ((0 : Int) ≤ p) = false → AV.bool false = r)) := by kernel_rfl

theorem gmay8Cs_ok : ∀ e ∈ gmay8Cs, SpecOK Try.prog e.1 e.2 := by
  intro e he
  simp only [gmay8Cs, List.mem_cons, List.not_mem_nil, or_false] at he
  rcases he with rfl
  · exact eright_ok

theorem gmay8_ok : SpecOK Try.prog 27 (genSpec [none, none] gmay8F) := by
  refine genSpec_ok (run_ok (l := gmay8Cs) gmay8Cs_ok mixed noNG) fun l R hF => ?_
  unfold gmay8F at hF
  split at hF
  · rename_i p o v w m n k j z
    refine ⟨_, hF, rfl, [.fork [.fork [.fork [] [.fork [] []]] []] []], ?_⟩
    show run gmay8Cs Try.prog _ [.agg [.int .i64 p, .bool o, .w64 v, .w64 w, .w64 m, .w64 n, .int .i64 k, .int .i64 j], .int .i64 z] [] _ _
    rw [gmay8_run]
    have hs : ∀ {x : Bool}, rtS ⟨o, ⟨v, w, m, n, k, j⟩⟩ = x → (0 ≤ p ∧ p < z) → AV.bool x = .bool (mayS ⟨p, ⟨o, ⟨v, w, m, n, k, j⟩⟩⟩ z) := fun h h2 => by rw [mayS_in h2, h]
    have hn : ¬ (0 ≤ p ∧ p < z) → AV.bool false = .bool (mayS ⟨p, ⟨o, ⟨v, w, m, n, k, j⟩⟩⟩ z) := fun h => by rw [mayS_not h]
    rw [eq_zS]
    refine ⟨fun h => ⟨fun h1 => ?_, fun h1 => hn ?_⟩, fun h => hn ?_⟩
    · have h := of_decide_eq_true h
      have h1 := of_decide_eq_true h1
      refine ⟨fun h2 => hs ?_ ⟨h, h1⟩, fun h2 => ⟨fun h3 => hs ?_ ⟨h, h1⟩, fun h3 => hs ?_ ⟨h, h1⟩⟩⟩
      · unfold rtS; rw [h2]; rfl
      · unfold rtS; rw [h2, h3]; rfl
      · unfold rtS; rw [h2, h3]; rfl
    · have := of_decide_eq_false h1; omega
    · have := of_decide_eq_false h; omega
  · exact hF.elim


noncomputable def gfind8Cs : List (FuncId × Sx.Spec) := [(52, genSpec [none, none] wmatchF)]

theorem gfind8_run (l : List Sl) (a b : BitVec 64) (r : AV) : run gfind8Cs Try.prog 40 [.vsl 0 0 (l.map slE).length, .agg [.w64 a, .w64 b]] [some ⟨false, (pSl.getD (0, 0)).1, (pSl.getD (0, 0)).2, true, (l.map slE)⟩] (gfH l a b) (yields (.v r)) =
    ((St.mk [AV.vsl (0 : Nat) (0 : Nat) (List.length (List.map slE l)), AV.func (Fn.func (51 : Nat)) [] [AV.ptr ((0 : Nat) + (1 : Nat)) (0 : Nat) (0 : Nat) true], AV.any, AV.any, AV.any, AV.any, AV.any, AV.int IntKind.i64 (↑(List.length (List.map slE l)) : Int), AV.int IntKind.i64 (0 : Int), AV.any, AV.any, AV.any, AV.any, AV.any, AV.any, AV.any, AV.any, AV.any, AV.any] [some (Blk.mk false (nat_lit 37) (7 : Nat) true (List.map slE l)), some (Blk.mk true (31 : Nat) (2 : Nat) true [AV.agg [AV.w64 a, AV.w64 b]])] = gfSt l a b (0 : Nat) ∧ fnI l a b (0 : Nat)) ∧ ∀ (p : Nat), fnI l a b p → (Decidable.decide ((↑p : Int) < (↑(List.length (List.map slE l)) : Int)) = true → ((0 : Int) ≤ (↑p : Int) ∧ (↑p : Int) < (↑(List.length (List.map slE l)) : Int)) ∧ Blk.read Proofs.Try.prog (Blk.mk false (37 : TypeId) (7 : Nat) true (List.map slE l)) (37 : Nat) ((0 : Nat) + Int.toNat (↑p : Int)) (0 : Nat) = some (AV.agg [AV.bool (at' l p).1, AV.w64 (Sl.e (at' l p)).1, AV.w64 (Sl.e (at' l p)).2, AV.w64 (Sl.e (at' l p)).3, AV.w64 (Sl.e (at' l p)).4, AV.int IntKind.i64 (Sl.e (at' l p)).5, AV.int IntKind.i64 (Sl.e (at' l p)).6]) ∧ ((at' l p).1 = true → (wmB (Sl.e (at' l p)).1 (Sl.e (at' l p)).2 (Sl.e (at' l p)).3 (Sl.e (at' l p)).4 a b = true → AV.tuple [AV.int IntKind.i64 (if (0 : Int) > (↑p : Int) then (0 : Int) else (↑p : Int)), AV.bool (Decidable.decide ((↑p : Int) ≥ (0 : Int)))] = r) ∧ (wmB (Sl.e (at' l p)).1 (Sl.e (at' l p)).2 (Sl.e (at' l p)).3 (Sl.e (at' l p)).4 a b = false → inRange IntKind.i64 ((↑p : Int) + (1 : Int)) ∧ ∃ (p' : Nat), St.mk [AV.vsl (0 : Nat) (0 : Nat) (List.length (List.map slE l)), AV.func (Fn.func (51 : FuncId)) [] [AV.ptr ((0 : Nat) + (1 : Nat)) (0 : Nat) (0 : Nat) true], AV.any, AV.any, AV.any, AV.any, AV.any, AV.int IntKind.i64 (↑(List.length (List.map slE l)) : Int), AV.int IntKind.i64 ((↑p : Int) + (1 : Int)), AV.any, AV.any, AV.any, AV.any, AV.any, AV.any, AV.any, AV.any, AV.any, AV.any] [some (Blk.mk false (37 : TypeId) (7 : Nat) true (List.map slE l)), some (Blk.mk true (31 : TypeId) (2 : Nat) true [AV.agg [AV.w64 a, AV.w64 b]])] = gfSt l a b p' ∧ fnI l a b p' ∧ List.length l + (1 : Nat) - p' < List.length l + (1 : Nat) - p)) ∧ ((at' l p).1 = false → inRange IntKind.i64 ((↑p : Int) + (1 : Int)) ∧ ∃ (p' : Nat), St.mk [AV.vsl (0 : Nat) (0 : Nat) (List.length (List.map slE l)), AV.func (Fn.func (51 : FuncId)) [] [AV.ptr ((0 : Nat) + (1 : Nat)) (0 : Nat) (0 : Nat) true], AV.any, AV.any, AV.any, AV.any, AV.any, AV.int IntKind.i64 (↑(List.length (List.map slE l)) : Int), AV.int IntKind.i64 ((↑p : Int) + (1 : Int)), AV.any, AV.any, AV.any, AV.any, AV.any, AV.any, AV.any, AV.any, AV.any, AV.any] [some (Blk.mk false (37 : TypeId) (7 : Nat) true (List.map slE l)), some (Blk.mk true (31 : TypeId) (2 : Nat) true [AV.agg [AV.w64 a, AV.w64 b]])] = gfSt l a b p' ∧ fnI l a b p' ∧ List.length l + (1 : Nat) - p' < List.length l + (1 : Nat) - p)) ∧ (Decidable.decide ((↑p : Int) < (↑(List.length (List.map slE l)) : Int)) = false → AV.tuple [AV.int IntKind.i64 (if (0 : Int) > (-1 : Int) then (0 : Int) else (-1 : Int)), AV.bool (Decidable.decide ((-1 : Int) ≥ (0 : Int)))] = r)) := by kernel_rfl

theorem gfind8Cs_ok : ∀ e ∈ gfind8Cs, SpecOK Try.prog e.1 e.2 := by
  intro e he
  simp only [gfind8Cs, List.mem_cons, List.not_mem_nil, or_false] at he
  rcases he with rfl
  · exact wmatch_ok

theorem gfind8_ok : SpecOK Try.prog 40 (genSpec [pSl, none] find8F) := by
  refine genSpec_ok (run_ok (l := gfind8Cs) gfind8Cs_ok mixed noNG) fun l R hF => ?_
  unfold find8F at hF
  split at hF
  · rename_i r_l a b
    obtain ⟨hr_l, hl, hF⟩ := hF
    generalize deS r_l = l at hr_l hl hF
    subst hr_l
    refine ⟨_, hF, rfl, (gfH l a b), ?_⟩
    show run gfind8Cs Try.prog _ [.vsl 0 0 (l.map slE).length, .agg [.w64 a, .w64 b]] [some ⟨false, (pSl.getD (0, 0)).1, (pSl.getD (0, 0)).2, true, (l.map slE)⟩] _ _
    rw [gfind8_run]
    refine ⟨⟨rfl, Nat.zero_le _, fun j hj => by omega⟩, ?_⟩
    rintro p ⟨h1, h2⟩
    refine ⟨fun hlt => ?_, fun hge => ?_⟩
    · have hp : p < l.length := by simp only [decide_eq_true_eq, List.length_map] at hlt; omega
      have B : 0 ≤ (p : Int) ∧ (p : Int) < ((l.map slE).length : Int) := by rw [List.length_map]; omega
      refine ⟨B, read_rows B.1 B.2 (sl_whole _), fun ho => ⟨fun hm => ?_, fun hm => ⟨inR (by omega) (by omega), p + 1, rfl, ⟨by omega, up h2 ?_⟩, by omega⟩⟩, fun ho => ⟨inR (by omega) (by omega), p + 1, rfl, ⟨by omega, up h2 ?_⟩, by omega⟩⟩
      · have hm : mtS a b (at' l p) = true := by unfold mtS; rw [ho]; exact hm
        rw [(fnS_spec l a b).uniq (.inr ⟨p, rfl, hp, hm, h2⟩)]
        rfl
      · unfold mtS; rw [ho]; exact hm
      · unfold mtS; rw [ho]; rfl
    · have hp : p = l.length := by simp only [decide_eq_false_iff_not, List.length_map] at hge; omega
      subst hp
      rw [(fnS_spec l a b).uniq (.inl ⟨rfl, h2⟩)]
      rfl
  · exact hF.elim


noncomputable def gtell8Cs : List (FuncId × Sx.Spec) := [(40, genSpec [pSl, none] find8F)]

theorem gtell8_run (l : List Sl) (a b : BitVec 64) (r : AV) : run gtell8Cs Try.prog 29 [.vsl 0 0 (l.map slE).length, .agg [.w64 a, .w64 b]] [some ⟨false, (pSl.getD (0, 0)).1, (pSl.getD (0, 0)).2, true, (l.map slE)⟩] [.fork [] [.dy, .cell (.int .i64 (at' l (fnS l a b).toNat).e.act)]] (yields (.v r)) =
    ((0 : Nat) + List.length (List.map slE l) ≤ List.length (List.map slE l) ∧ List.take (List.length (List.map slE l)) (List.drop (0 : Nat) (List.map slE l)) = List.map slE (deS (List.take (List.length (List.map slE l)) (List.drop (0 : Nat) (List.map slE l)))) ∧ List.length (deS (List.take (List.length (List.map slE l)) (List.drop (0 : Nat) (List.map slE l)))) ≤ (9223372036854775807 : Nat) ∧ ((!Decidable.decide (fnS (deS (List.take (List.length (List.map slE l)) (List.drop (0 : Nat) (List.map slE l)))) a b ≥ (0 : Int))) = true → AV.int IntKind.i64 (0 : Int) = r) ∧ ((!Decidable.decide (fnS (deS (List.take (List.length (List.map slE l)) (List.drop (0 : Nat) (List.map slE l)))) a b ≥ (0 : Int))) = false → ((0 : Int) ≤ mx0 (fnS (deS (List.take (List.length (List.map slE l)) (List.drop (0 : Nat) (List.map slE l)))) a b) ∧ mx0 (fnS (deS (List.take (List.length (List.map slE l)) (List.drop (0 : Nat) (List.map slE l)))) a b) < (↑(List.length (List.map slE l)) : Int)) ∧ Blk.read Proofs.Try.prog (Blk.mk false (nat_lit 37) (7 : Nat) true (List.map slE l)) (3 : Nat) ((0 : Nat) + Int.toNat (mx0 (fnS (deS (List.take (List.length (List.map slE l)) (List.drop (0 : Nat) (List.map slE l)))) a b))) ((0 : Nat) + (1 : Nat) + (5 : Nat)) = some (AV.int IntKind.i64 (Sl.e (at' l (Int.toNat (fnS l a b)))).6) ∧ AV.int IntKind.i64 (Sl.e (at' l (Int.toNat (fnS l a b)))).6 = r)) := by kernel_rfl

theorem gtell8Cs_ok : ∀ e ∈ gtell8Cs, SpecOK Try.prog e.1 e.2 := by
  intro e he
  simp only [gtell8Cs, List.mem_cons, List.not_mem_nil, or_false] at he
  rcases he with rfl
  · exact gfind8_ok

theorem gtell8_ok : SpecOK Try.prog 29 (genSpec [pSl, none] gtell8F) := by
  refine genSpec_ok (run_ok (l := gtell8Cs) gtell8Cs_ok mixed noNG) fun l R hF => ?_
  unfold gtell8F at hF
  split at hF
  · rename_i r_l a b
    obtain ⟨hr_l, hl, hF⟩ := hF
    generalize deS r_l = l at hr_l hl hF
    subst hr_l
    refine ⟨_, hF, rfl, [.fork [] [.dy, .cell (.int .i64 (at' l (fnS l a b).toNat).e.act)]], ?_⟩
    show run gtell8Cs Try.prog _ [.vsl 0 0 (l.map slE).length, .agg [.w64 a, .w64 b]] [some ⟨false, (pSl.getD (0, 0)).1, (pSl.getD (0, 0)).2, true, (l.map slE)⟩] _ _
    rw [gtell8_run]
    rw [whole_row, deS_map]
    refine ⟨by omega, rfl, hl, fun h => ?_, fun h => ?_⟩
    · have h := of_decide_eq_false (notTT h)
      unfold tlS
      rw [if_pos (by omega)]
    · have h := of_decide_eq_true (notF h)
      have B : 0 ≤ fnS l a b ∧ fnS l a b < ((l.map slE).length : Int) := by
        rcases fnS_spec l a b with ⟨h1, _⟩ | ⟨i, h1, h2, _⟩
        · omega
        · rw [h1, List.length_map]; omega
      rw [mx0_of h]
      refine ⟨B, read_rows B.1 B.2 (sl_act _), ?_⟩
      unfold tlS
      rw [if_neg (by omega)]
  · exact hF.elim


theorem gfree8_run (l : List Sl) (r : AV) : run [] Try.prog 31 [.vsl 0 0 (l.map slE).length] [some ⟨false, (pSl.getD (0, 0)).1, (pSl.getD (0, 0)).2, true, (l.map slE)⟩] (gcH l) (yields (.v r)) =
    ((St.mk [AV.any, AV.any, AV.any, AV.int IntKind.i64 (0 : Int), AV.any, AV.any, AV.vsl (0 : Nat) (0 : Nat) (List.length (List.map slE l)), AV.int IntKind.i64 (↑(List.length (List.map slE l)) : Int), AV.int IntKind.i64 (0 : Int), AV.any, AV.any, AV.any, AV.any, AV.any, AV.any, AV.any, AV.any, AV.any, AV.any] [some (Blk.mk false (nat_lit 37) (7 : Nat) true (List.map slE l))] = gcSt l (0 : Nat) ∧ Nat.le (0 : Nat) (List.length l)) ∧ ∀ (p : Nat), Nat.le p (List.length l) → (Decidable.decide ((↑p : Int) < (↑(List.length (List.map slE l)) : Int)) = true → ((0 : Int) ≤ (↑p : Int) ∧ (↑p : Int) < (↑(List.length (List.map slE l)) : Int)) ∧ Blk.read Proofs.Try.prog (Blk.mk false (37 : TypeId) (7 : Nat) true (List.map slE l)) (37 : Nat) ((0 : Nat) + Int.toNat (↑p : Int)) (0 : Nat) = some (AV.agg [AV.bool (at' l p).1, AV.w64 (Sl.e (at' l p)).1, AV.w64 (Sl.e (at' l p)).2, AV.w64 (Sl.e (at' l p)).3, AV.w64 (Sl.e (at' l p)).4, AV.int IntKind.i64 (Sl.e (at' l p)).5, AV.int IntKind.i64 (Sl.e (at' l p)).6]) ∧ ((!(at' l p).1) = true → inRange IntKind.i64 (frS (List.take p l) + (1 : Int)) ∧ inRange IntKind.i64 ((↑p : Int) + (1 : Int)) ∧ ∃ (p' : Nat), St.mk [AV.any, AV.any, AV.any, AV.int IntKind.i64 (frS (List.take p l) + (1 : Int)), AV.any, AV.any, AV.vsl (0 : Nat) (0 : Nat) (List.length (List.map slE l)), AV.int IntKind.i64 (↑(List.length (List.map slE l)) : Int), AV.int IntKind.i64 ((↑p : Int) + (1 : Int)), AV.any, AV.any, AV.any, AV.any, AV.any, AV.any, AV.any, AV.any, AV.any, AV.any] [some (Blk.mk false (37 : TypeId) (7 : Nat) true (List.map slE l))] = gcSt l p' ∧ Nat.le p' (List.length l) ∧ List.length l + (1 : Nat) - p' < List.length l + (1 : Nat) - p) ∧ ((!(at' l p).1) = false → inRange IntKind.i64 ((↑p : Int) + (1 : Int)) ∧ ∃ (p' : Nat), St.mk [AV.any, AV.any, AV.any, AV.int IntKind.i64 (frS (List.take p l)), AV.any, AV.any, AV.vsl (0 : Nat) (0 : Nat) (List.length (List.map slE l)), AV.int IntKind.i64 (↑(List.length (List.map slE l)) : Int), AV.int IntKind.i64 ((↑p : Int) + (1 : Int)), AV.any, AV.any, AV.any, AV.any, AV.any, AV.any, AV.any, AV.any, AV.any, AV.any] [some (Blk.mk false (37 : TypeId) (7 : Nat) true (List.map slE l))] = gcSt l p' ∧ Nat.le p' (List.length l) ∧ List.length l + (1 : Nat) - p' < List.length l + (1 : Nat) - p)) ∧ (Decidable.decide ((↑p : Int) < (↑(List.length (List.map slE l)) : Int)) = false → AV.int IntKind.i64 (frS (List.take p l)) = r)) := by kernel_rfl

theorem gfree8_ok : SpecOK Try.prog 31 (genSpec [pSl] gfree8F) := by
  refine genSpec_ok none_ok fun l R hF => ?_
  unfold gfree8F at hF
  split at hF
  · rename_i r_l
    obtain ⟨hr_l, hl, hF⟩ := hF
    generalize deS r_l = l at hr_l hl hF
    subst hr_l
    refine ⟨_, hF, rfl, (gcH l), ?_⟩
    show run [] Try.prog _ [.vsl 0 0 (l.map slE).length] [some ⟨false, (pSl.getD (0, 0)).1, (pSl.getD (0, 0)).2, true, (l.map slE)⟩] _ _
    rw [gfree8_run]
    refine ⟨⟨rfl, Nat.zero_le _⟩, ?_⟩
    intro p (hp : p ≤ l.length)
    refine ⟨fun hlt => ?_, fun hge => ?_⟩
    · have hlt : p < l.length := by simp only [decide_eq_true_eq, List.length_map] at hlt; omega
      have B : 0 ≤ (p : Int) ∧ (p : Int) < ((l.map slE).length : Int) := by rw [List.length_map]; omega
      have e : frS (l.take (p + 1)) = if (at' l p).ok then frS (l.take p) else frS (l.take p) + 1 := by rw [take_one hlt, frS_snoc]
      have hb : frS (l.take p) ≤ p ∧ 0 ≤ frS (l.take p) := by
        have := ensS_length (l.take p)
        unfold frS
        rw [List.length_take] at *
        omega
      refine ⟨B, read_rows B.1 B.2 (sl_whole _), fun ho => ?_, fun ho => ?_⟩
      · rw [notTT ho] at e
        refine ⟨inR (by omega) (by omega), inR (by omega) (by omega), p + 1, ?_, hlt, by omega⟩
        unfold gcSt
        rw [e]; rfl
      · rw [notF ho] at e
        refine ⟨inR (by omega) (by omega), p + 1, ?_, hlt, by omega⟩
        unfold gcSt
        rw [e]; rfl
    · have hp : p = l.length := by simp only [decide_eq_false_iff_not, List.length_map] at hge; omega
      subst hp
      rw [List.take_length]
  · exact hF.elim


theorem gentries8_run (l : List Sl) (F : List En → List AV) (es : List AV) : run [] Try.prog 24 [.vsl 0 0 (l.map slE).length] [some ⟨false, (pSl.getD (0, 0)).1, (pSl.getD (0, 0)).2, true, (l.map slE)⟩] (gnH F l) (yields (.vrow 35 6 es)) =
    ((St.mk [AV.any, AV.any, AV.any, AV.vsl (List.length [some (Blk.mk false (nat_lit 37) (7 : Nat) true (List.map slE l))]) (0 : Nat) (0 : Nat), AV.any, AV.any, AV.vsl (0 : Nat) (0 : Nat) (List.length (List.map slE l)), AV.int IntKind.i64 (↑(List.length (List.map slE l)) : Int), AV.int IntKind.i64 (0 : Int), AV.any, AV.any, AV.any, AV.any, AV.any, AV.any, AV.any, AV.any, AV.any, AV.any, AV.any, AV.any] ([some (Blk.mk false (nat_lit 37) (7 : Nat) true (List.map slE l))] ++ [some (Blk.mk true (35 : TypeId) (6 : Nat) true [])]) = gnSt F l (0 : Nat) ∧ Nat.le (0 : Nat) (List.length l)) ∧ ∀ (p : Nat), Nat.le p (List.length l) → (Decidable.decide ((↑p : Int) < (↑(List.length (List.map slE l)) : Int)) = true → ((0 : Int) ≤ (↑p : Int) ∧ (↑p : Int) < (↑(List.length (List.map slE l)) : Int)) ∧ Blk.read Proofs.Try.prog (Blk.mk false (37 : TypeId) (7 : Nat) true (List.map slE l)) (37 : Nat) ((0 : Nat) + Int.toNat (↑p : Int)) (0 : Nat) = some (AV.agg [AV.bool (at' l p).1, AV.w64 (Sl.e (at' l p)).1, AV.w64 (Sl.e (at' l p)).2, AV.w64 (Sl.e (at' l p)).3, AV.w64 (Sl.e (at' l p)).4, AV.int IntKind.i64 (Sl.e (at' l p)).5, AV.int IntKind.i64 (Sl.e (at' l p)).6]) ∧ ((at' l p).1 = true → ((List.length (ensS (List.take p l)) + (1 : Nat)) * (48 : Nat) ≤ (140737488355328 : Nat) ∧ List.length (ensS (List.take p l)) + (1 : Nat) ≤ (9223372036854775807 : Nat) ∧ (0 : Nat) + (1 : Nat) ≤ List.length [AV.agg [AV.w64 (Sl.e (at' l p)).1, AV.w64 (Sl.e (at' l p)).2, AV.w64 (Sl.e (at' l p)).3, AV.w64 (Sl.e (at' l p)).4, AV.int IntKind.i64 (Sl.e (at' l p)).5, AV.int IntKind.i64 (Sl.e (at' l p)).6]] ∧ List.length (ensS (List.take p l)) ≤ List.length (F (ensS (List.take p l)))) ∧ List.take (List.length (ensS (List.take p l))) (F (ensS (List.take p l))) ++ [AV.agg [AV.w64 (Sl.e (at' l p)).1, AV.w64 (Sl.e (at' l p)).2, AV.w64 (Sl.e (at' l p)).3, AV.w64 (Sl.e (at' l p)).4, AV.int IntKind.i64 (Sl.e (at' l p)).5, AV.int IntKind.i64 (Sl.e (at' l p)).6]] = F (ensS (List.take (p + (1 : Nat)) l)) ∧ inRange IntKind.i64 ((↑p : Int) + (1 : Int)) ∧ ∃ (p' : Nat), St.mk [AV.any, AV.any, AV.any, AV.vsl ((0 : Nat) + (1 : Nat)) (0 : Nat) (List.length (ensS (List.take p l)) + (1 : Nat)), AV.any, AV.any, AV.vsl (0 : Nat) (0 : Nat) (List.length (List.map slE l)), AV.int IntKind.i64 (↑(List.length (List.map slE l)) : Int), AV.int IntKind.i64 ((↑p : Int) + (1 : Int)), AV.any, AV.any, AV.any, AV.any, AV.any, AV.any, AV.any, AV.any, AV.any, AV.any, AV.any, AV.any] [some (Blk.mk false (37 : TypeId) (7 : Nat) true (List.map slE l)), some (Blk.mk true (35 : Nat) (6 : Nat) true (F (ensS (List.take (p + (1 : Nat)) l))))] = gnSt F l p' ∧ Nat.le p' (List.length l) ∧ List.length l + (1 : Nat) - p' < List.length l + (1 : Nat) - p) ∧ ((at' l p).1 = false → inRange IntKind.i64 ((↑p : Int) + (1 : Int)) ∧ ∃ (p' : Nat), St.mk [AV.any, AV.any, AV.any, AV.vsl ((0 : Nat) + (1 : Nat)) (0 : Nat) (List.length (ensS (List.take p l))), AV.any, AV.any, AV.vsl (0 : Nat) (0 : Nat) (List.length (List.map slE l)), AV.int IntKind.i64 (↑(List.length (List.map slE l)) : Int), AV.int IntKind.i64 ((↑p : Int) + (1 : Int)), AV.any, AV.any, AV.any, AV.any, AV.any, AV.any, AV.any, AV.any, AV.any, AV.any, AV.any, AV.any] [some (Blk.mk false (37 : TypeId) (7 : Nat) true (List.map slE l)), some (Blk.mk true (35 : TypeId) (6 : Nat) true (F (ensS (List.take p l))))] = gnSt F l p' ∧ Nat.le p' (List.length l) ∧ List.length l + (1 : Nat) - p' < List.length l + (1 : Nat) - p)) ∧ (Decidable.decide ((↑p : Int) < (↑(List.length (List.map slE l)) : Int)) = false → List.length (ensS (List.take p l)) = List.length es ∧ some (Blk.mk true (35 : TypeId) (6 : Nat) true (F (ensS (List.take p l)))) = some (Blk.mk true (35 : TypeId) (6 : Nat) true es))) := by kernel_rfl

theorem gentries8_ok : SpecOK Try.prog 24 (genSpec [pSl] gentries8F) := by
  refine genSpec_ok none_ok fun l R hF => ?_
  unfold gentries8F at hF
  split at hF
  · rename_i r_l
    obtain ⟨hr_l, hl, hF⟩ := hF
    generalize deS r_l = l at hr_l hl hF
    subst hr_l
    refine ⟨_, hF, trivial, (gnH (List.map enE) l), ?_⟩
    show run [] Try.prog _ [.vsl 0 0 (l.map slE).length] [some ⟨false, (pSl.getD (0, 0)).1, (pSl.getD (0, 0)).2, true, (l.map slE)⟩] _ _
    rw [gentries8_run]
    have hle : ∀ q, (ensS (l.take q)).length ≤ 1000000 := fun q => by have := ensS_length (l.take q); rw [List.length_take] at this; omega
    refine ⟨⟨rfl, Nat.zero_le _⟩, ?_⟩
    intro p (hp : p ≤ l.length)
    refine ⟨fun hlt => ?_, fun hge => ?_⟩
    · have hlt : p < l.length := by simp only [decide_eq_true_eq, List.length_map] at hlt; omega
      have B : 0 ≤ (p : Int) ∧ (p : Int) < ((l.map slE).length : Int) := by rw [List.length_map]; omega
      have e : ensS (l.take (p + 1)) = if (at' l p).ok then ensS (l.take p) ++ [(at' l p).e] else ensS (l.take p) := by rw [take_one hlt, ensS_snoc]
      refine ⟨B, read_rows B.1 B.2 (sl_whole _), fun ho => ?_, fun ho => ?_⟩
      · rw [ho, if_pos rfl] at e
        have := hle p
        refine ⟨⟨by omega, by omega, by simp, by rw [List.length_map]; exact Nat.le_refl _⟩, ?_, inR (by omega) (by omega), p + 1, ?_, hlt, by omega⟩
        · rw [List.take_of_length_le (by rw [List.length_map]; exact Nat.le_refl _), e, List.map_append]
          rfl
        · unfold gnSt
          rw [e, List.length_append]
          rfl
      · rw [ho] at e
        refine ⟨inR (by omega) (by omega), p + 1, ?_, hlt, by omega⟩
        unfold gnSt
        rw [e]; rfl
    · have hp : p = l.length := by simp only [decide_eq_false_iff_not, List.length_map] at hge; omega
      subst hp
      rw [List.take_length, List.length_map]
      exact ⟨rfl, rfl⟩
  · exact hF.elim


theorem gclone8_run (l : List Sl) (F : List Sl → List AV) (es : List AV) : run [] Try.prog 37 [.vsl 0 0 (l.map slE).length] [some ⟨false, (pSl.getD (0, 0)).1, (pSl.getD (0, 0)).2, true, (l.map slE)⟩] [.ix l.length, .rows (F l)] (yields (.vrow 37 7 es)) =
    (((0 : Int) ≤ (↑(List.length (List.map slE l)) : Int) ∧ (↑(List.length (List.map slE l)) : Int) ≤ (↑(List.length (List.map slE l)) : Int) ∧ (↑(List.length (List.map slE l)) : Int) ≤ (9223372036854775807 : Int) ∧ (↑(56 : Nat) : Int) * (↑(List.length (List.map slE l)) : Int) ≤ (281474976710656 : Int) ∧ (0 : Nat) < (7 : Nat)) ∧ (List.length l = Min.min (List.length (List.map slE l)) (Int.toNat (↑(List.length (List.map slE l)) : Int)) ∧ (0 : Nat) + Int.toNat (↑(List.length (List.map slE l)) : Int) ≤ List.length ((List.replicate (Int.toNat (↑(List.length (List.map slE l)) : Int)) (AV.agg [AV.lit (Value.bool false), AV.lit (Value.int IntKind.u64 (0 : Int)), AV.lit (Value.int IntKind.u64 (0 : Int)), AV.lit (Value.int IntKind.u64 (0 : Int)), AV.lit (Value.int IntKind.u64 (0 : Int)), AV.lit (Value.int IntKind.i64 (0 : Int)), AV.lit (Value.int IntKind.i64 (0 : Int))]))) ∧ (0 : Nat) + List.length (List.map slE l) ≤ List.length (List.map slE l)) ∧ [] ++ List.take (List.length l) (List.drop (0 : Nat) (List.map slE l)) ++ List.drop ((0 : Nat) + List.length l) ((List.replicate (Int.toNat (↑(List.length (List.map slE l)) : Int)) (AV.agg [AV.lit (Value.bool false), AV.lit (Value.int IntKind.u64 (0 : Int)), AV.lit (Value.int IntKind.u64 (0 : Int)), AV.lit (Value.int IntKind.u64 (0 : Int)), AV.lit (Value.int IntKind.u64 (0 : Int)), AV.lit (Value.int IntKind.i64 (0 : Int)), AV.lit (Value.int IntKind.i64 (0 : Int))]))) = F l ∧ Int.toNat (↑(List.length (List.map slE l)) : Int) = List.length es ∧ some (Blk.mk true (nat_lit 37) (7 : Nat) true (F l)) = some (Blk.mk true (37 : TypeId) (7 : Nat) true es)) := by kernel_rfl

theorem gclone8_ok : SpecOK Try.prog 37 (genSpec [pSl] clone8F) := by
  refine genSpec_ok none_ok fun l R hF => ?_
  unfold clone8F at hF
  split at hF
  · rename_i r_l
    obtain ⟨hr_l, hl, hF⟩ := hF
    generalize deS r_l = l at hr_l hl hF
    subst hr_l
    refine ⟨_, hF, trivial, [.ix l.length, .rows ((List.map slE) l)], ?_⟩
    show run [] Try.prog _ [.vsl 0 0 (l.map slE).length] [some ⟨false, (pSl.getD (0, 0)).1, (pSl.getD (0, 0)).2, true, (l.map slE)⟩] _ _
    rw [gclone8_run]
    have e : (((l.map slE).length : Int)).toNat = l.length := by rw [List.length_map]; rfl
    rw [e, List.length_replicate, List.length_map]
    refine ⟨⟨by omega, by omega, by omega, by omega, by decide⟩, ⟨by omega, by omega, by omega⟩, ?_, rfl, rfl⟩
    rw [List.nil_append, take_all rfl, List.drop_eq_nil_of_le (by rw [List.length_replicate]; omega), List.append_nil]
  · exact hF.elim


noncomputable def gapply8Cs : List (FuncId × Sx.Spec) := [(37, genSpec [pSl] clone8F),
  (27, genSpec [none, none] gmay8F)]

theorem gapply8_run (l : List Sl) (w : List Wr) (F : List Sl → List AV) (es : List AV) : run gapply8Cs Try.prog 28 [.vsl 0 0 (l.map slE).length, .vsl 1 0 (w.map wrE).length] [some ⟨false, (pSl.getD (0, 0)).1, (pSl.getD (0, 0)).2, true, (l.map slE)⟩, some ⟨false, (pWr.getD (0, 0)).1, (pWr.getD (0, 0)).2, true, (w.map wrE)⟩] (gaH F l w) (yields (.vrow 37 7 es)) =
    ((0 : Nat) + List.length (List.map slE l) ≤ List.length (List.map slE l) ∧ List.take (List.length (List.map slE l)) (List.drop (0 : Nat) (List.map slE l)) = List.map slE (deS (List.take (List.length (List.map slE l)) (List.drop (0 : Nat) (List.map slE l)))) ∧ List.length (deS (List.take (List.length (List.map slE l)) (List.drop (0 : Nat) (List.map slE l)))) ≤ (1000000 : Nat) ∧ (List.map slE (deS (List.take (List.length (List.map slE l)) (List.drop (0 : Nat) (List.map slE l)))) = F l ∧ List.length (List.map slE (deS (List.take (List.length (List.map slE l)) (List.drop (0 : Nat) (List.map slE l))))) = List.length (F l)) ∧ (St.mk [AV.any, AV.any, AV.any, AV.any, AV.any, AV.vsl ((0 : Nat) + (1 : Nat) + (1 : Nat)) (0 : Nat) (List.length (F l)), AV.any, AV.any, AV.any, AV.any, AV.vsl ((0 : Nat) + (1 : Nat)) (0 : Nat) (List.length (List.map wrE w)), AV.int IntKind.i64 (↑(List.length (List.map wrE w)) : Int), AV.int IntKind.i64 (0 : Int), AV.any, AV.any, AV.any, AV.any, AV.any, AV.any, AV.any, AV.any, AV.any, AV.any, AV.any, AV.any, AV.any, AV.any, AV.any] [some (Blk.mk false (nat_lit 37) (7 : Nat) true (List.map slE l)), some (Blk.mk false (nat_lit 39) (8 : Nat) true (List.map wrE w)), some (Blk.mk true (37 : TypeId) (7 : Nat) true (F l))] = gaSt F l w (0 : Nat) ∧ Nat.le (0 : Nat) (List.length w)) ∧ ∀ (p : Nat), Nat.le p (List.length w) → (Decidable.decide ((↑p : Int) < (↑(List.length (List.map wrE w)) : Int)) = true → ((0 : Int) ≤ (↑p : Int) ∧ (↑p : Int) < (↑(List.length (List.map wrE w)) : Int)) ∧ Blk.read Proofs.Try.prog (Blk.mk false (39 : TypeId) (8 : Nat) true (List.map wrE w)) (39 : Nat) ((0 : Nat) + Int.toNat (↑p : Int)) (0 : Nat) = some (AV.agg [AV.int IntKind.i64 (at' w p).1, AV.bool (Wr.s (at' w p)).1, AV.w64 (Sl.e (Wr.s (at' w p))).1, AV.w64 (Sl.e (Wr.s (at' w p))).2, AV.w64 (Sl.e (Wr.s (at' w p))).3, AV.w64 (Sl.e (Wr.s (at' w p))).4, AV.int IntKind.i64 (Sl.e (Wr.s (at' w p))).5, AV.int IntKind.i64 (Sl.e (Wr.s (at' w p))).6]) ∧ (mayS (Wr.mk (at' w p).1 (Sl.mk (Wr.s (at' w p)).1 (En.mk (Sl.e (Wr.s (at' w p))).1 (Sl.e (Wr.s (at' w p))).2 (Sl.e (Wr.s (at' w p))).3 (Sl.e (Wr.s (at' w p))).4 (Sl.e (Wr.s (at' w p))).5 (Sl.e (Wr.s (at' w p))).6))) (↑(List.length (F l)) : Int) = true → ((0 : Int) ≤ (at' w p).1 ∧ (at' w p).1 < (↑(List.length (F l)) : Int)) ∧ Blk.fits (Blk.mk true (37 : TypeId) (7 : Nat) true (F (apL l (List.take p w)))) ((0 : Nat) + Int.toNat (at' w p).1) (0 : Nat) (AV.agg [AV.bool (Wr.s (at' w p)).1, AV.w64 (Sl.e (Wr.s (at' w p))).1, AV.w64 (Sl.e (Wr.s (at' w p))).2, AV.w64 (Sl.e (Wr.s (at' w p))).3, AV.w64 (Sl.e (Wr.s (at' w p))).4, AV.int IntKind.i64 (Sl.e (Wr.s (at' w p))).5, AV.int IntKind.i64 (Sl.e (Wr.s (at' w p))).6]) = true ∧ Blk.writes (Blk.mk true (37 : TypeId) (7 : Nat) true (F (apL l (List.take p w)))) ((0 : Nat) + Int.toNat (at' w p).1) (0 : Nat) (AV.agg [AV.bool (Wr.s (at' w p)).1, AV.w64 (Sl.e (Wr.s (at' w p))).1, AV.w64 (Sl.e (Wr.s (at' w p))).2, AV.w64 (Sl.e (Wr.s (at' w p))).3, AV.w64 (Sl.e (Wr.s (at' w p))).4, AV.int IntKind.i64 (Sl.e (Wr.s (at' w p))).5, AV.int IntKind.i64 (Sl.e (Wr.s (at' w p))).6]) (F (apL l (List.take (p + (1 : Nat)) w))) ∧ inRange IntKind.i64 ((↑p : Int) + (1 : Int)) ∧ ∃ (p' : Nat), St.mk [AV.any, AV.any, AV.any, AV.any, AV.any, AV.vsl ((0 : Nat) + (1 : Nat) + (1 : Nat)) (0 : Nat) (List.length (F l)), AV.any, AV.any, AV.any, AV.any, AV.vsl ((0 : Nat) + (1 : Nat)) (0 : Nat) (List.length (List.map wrE w)), AV.int IntKind.i64 (↑(List.length (List.map wrE w)) : Int), AV.int IntKind.i64 ((↑p : Int) + (1 : Int)), AV.any, AV.any, AV.any, AV.any, AV.any, AV.any, AV.any, AV.any, AV.any, AV.any, AV.any, AV.any, AV.any, AV.any, AV.any] [some (Blk.mk false (37 : TypeId) (7 : Nat) true (List.map slE l)), some (Blk.mk false (39 : TypeId) (8 : Nat) true (List.map wrE w)), some (Blk.mk true (nat_lit 37) (7 : Nat) true (F (apL l (List.take (p + (1 : Nat)) w))))] = gaSt F l w p' ∧ Nat.le p' (List.length w) ∧ List.length w + (1 : Nat) - p' < List.length w + (1 : Nat) - p) ∧ (mayS (Wr.mk (at' w p).1 (Sl.mk (Wr.s (at' w p)).1 (En.mk (Sl.e (Wr.s (at' w p))).1 (Sl.e (Wr.s (at' w p))).2 (Sl.e (Wr.s (at' w p))).3 (Sl.e (Wr.s (at' w p))).4 (Sl.e (Wr.s (at' w p))).5 (Sl.e (Wr.s (at' w p))).6))) (↑(List.length (F l)) : Int) = false → inRange IntKind.i64 ((↑p : Int) + (1 : Int)) ∧ ∃ (p' : Nat), St.mk [AV.any, AV.any, AV.any, AV.any, AV.any, AV.vsl ((0 : Nat) + (1 : Nat) + (1 : Nat)) (0 : Nat) (List.length (F l)), AV.any, AV.any, AV.any, AV.any, AV.vsl ((0 : Nat) + (1 : Nat)) (0 : Nat) (List.length (List.map wrE w)), AV.int IntKind.i64 (↑(List.length (List.map wrE w)) : Int), AV.int IntKind.i64 ((↑p : Int) + (1 : Int)), AV.any, AV.any, AV.any, AV.any, AV.any, AV.any, AV.any, AV.any, AV.any, AV.any, AV.any, AV.any, AV.any, AV.any, AV.any] [some (Blk.mk false (37 : TypeId) (7 : Nat) true (List.map slE l)), some (Blk.mk false (39 : TypeId) (8 : Nat) true (List.map wrE w)), some (Blk.mk true (37 : TypeId) (7 : Nat) true (F (apL l (List.take p w))))] = gaSt F l w p' ∧ Nat.le p' (List.length w) ∧ List.length w + (1 : Nat) - p' < List.length w + (1 : Nat) - p)) ∧ (Decidable.decide ((↑p : Int) < (↑(List.length (List.map wrE w)) : Int)) = false → List.length (F l) = List.length es ∧ some (Blk.mk true (37 : TypeId) (7 : Nat) true (F (apL l (List.take p w)))) = some (Blk.mk true (37 : TypeId) (7 : Nat) true es))) := by kernel_rfl

theorem gapply8Cs_ok : ∀ e ∈ gapply8Cs, SpecOK Try.prog e.1 e.2 := by
  intro e he
  simp only [gapply8Cs, List.mem_cons, List.not_mem_nil, or_false] at he
  rcases he with rfl | rfl
  · exact gclone8_ok
  · exact gmay8_ok

theorem gapply8_ok : SpecOK Try.prog 28 (genSpec [pSl, pWr] gapply8F) := by
  refine genSpec_ok (run_ok (l := gapply8Cs) gapply8Cs_ok mixed noNG) fun l R hF => ?_
  unfold gapply8F at hF
  split at hF
  · rename_i r_l r_w
    obtain ⟨hr_l, hl, hF⟩ := hF
    generalize deS r_l = l at hr_l hl hF
    subst hr_l
    obtain ⟨hr_w, hw, hF⟩ := hF
    generalize deW r_w = w at hr_w hw hF
    subst hr_w
    refine ⟨_, hF, trivial, (gaH (List.map slE) l w), ?_⟩
    show run gapply8Cs Try.prog _ [.vsl 0 0 (l.map slE).length, .vsl 1 0 (w.map wrE).length] [some ⟨false, (pSl.getD (0, 0)).1, (pSl.getD (0, 0)).2, true, (l.map slE)⟩, some ⟨false, (pWr.getD (0, 0)).1, (pWr.getD (0, 0)).2, true, (w.map wrE)⟩] _ _
    rw [gapply8_run]
    have hlw : ∀ q, (apL l (w.take q)).length = l.length := fun q => apL_length _ _
    rw [whole_row, deS_map]
    refine ⟨by omega, rfl, by omega, ⟨rfl, rfl⟩, ⟨rfl, Nat.zero_le _⟩, ?_⟩
    intro p (hp : p ≤ w.length)
    rw [List.length_map (f := slE)]
    refine ⟨fun hlt => ?_, fun hge => ?_⟩
    · have hlt : p < w.length := by simp only [decide_eq_true_eq, List.length_map] at hlt; omega
      have B : 0 ≤ (p : Int) ∧ (p : Int) < ((w.map wrE).length : Int) := by rw [List.length_map]; omega
      have e : apL l (w.take (p + 1)) = apS (apL l (w.take p)) (at' w p) := by rw [take_one hlt, apL_snoc]
      refine ⟨B, read_rows B.1 B.2 (wr_whole _), fun hm => ?_, fun hm => ?_⟩
      · have hm : mayS (at' w p) l.length = true := hm
        have hi := mayS_is hm
        have hi2 : (at' w p).p < ((apL l (w.take p)).length : Int) := by rw [hlw]; exact hi.2
        refine ⟨hi, fit_rows hi.1 hi2 rfl, wr_rows (x := (at' w p).s) hi.1 hi2 rfl ?_, inR (by omega) (by omega), p + 1, by unfold gaSt; rw [List.length_map (f := slE)]; rfl, hlt, by omega⟩
        rw [e]
        unfold apS
        rw [hlw, if_pos hm]
      · have hm : mayS (at' w p) l.length = false := hm
        refine ⟨inR (by omega) (by omega), p + 1, ?_, hlt, by omega⟩
        have e2 : apL l (w.take (p + 1)) = apL l (w.take p) := by
          rw [e]; unfold apS; rw [hlw, hm]; rfl
        unfold gaSt
        rw [e2, List.length_map (f := slE)]; rfl
    · have hp : p = w.length := by simp only [decide_eq_false_iff_not, List.length_map] at hge; omega
      subst hp
      rw [List.take_length, List.length_map, apL_length]
      exact ⟨rfl, rfl⟩
  · exact hF.elim


end Go.Proofs.Yteagcgocmdjobaa.L1
end

section
/-
  Layer 8: contracts of the program's calls of a bank: New, Do, Read, Search, Slots, Writes, Copy.
-/
namespace Go.Proofs.Yteagcgocmdjobaa.L1
open Go.Sx Go.Sx.M

def bkH (w : Bool) (c : Int) (l : List AV) : Hp := [some ⟨w, bkT, 2, false, [.agg [.slice 1 0 l.length false, .int .i64 c]]⟩, some ⟨w, 37, 7, true, l⟩]

theorem slots8_run (c : Int) (l es : List AV) : run [] Try.prog 18 [.ptr 0 0 0 true] (bkH false c l) [.ix l.length, .rows l] (yields (.vrow 37 7 es)) =
    (((0 : Int) ≤ (↑(List.length l) : Int) ∧ (↑(List.length l) : Int) ≤ (↑(List.length l) : Int) ∧ (↑(List.length l) : Int) ≤ (9223372036854775807 : Int) ∧ (↑(56 : Nat) : Int) * (↑(List.length l) : Int) ≤ (281474976710656 : Int) ∧ (0 : Nat) < (7 : Nat)) ∧ (List.length l = Min.min (List.length l) (Int.toNat (↑(List.length l) : Int)) ∧ (0 : Nat) + Int.toNat (↑(List.length l) : Int) ≤ List.length ((List.replicate (Int.toNat (↑(List.length l) : Int)) (AV.agg [AV.lit (Value.bool false), AV.lit (Value.int IntKind.u64 (0 : Int)), AV.lit (Value.int IntKind.u64 (0 : Int)), AV.lit (Value.int IntKind.u64 (0 : Int)), AV.lit (Value.int IntKind.u64 (0 : Int)), AV.lit (Value.int IntKind.i64 (0 : Int)), AV.lit (Value.int IntKind.i64 (0 : Int))]))) ∧ (0 : Nat) + List.length l ≤ List.length l) ∧ [] ++ List.take (List.length l) (List.drop (0 : Nat) l) ++ List.drop ((0 : Nat) + List.length l) ((List.replicate (Int.toNat (↑(List.length l) : Int)) (AV.agg [AV.lit (Value.bool false), AV.lit (Value.int IntKind.u64 (0 : Int)), AV.lit (Value.int IntKind.u64 (0 : Int)), AV.lit (Value.int IntKind.u64 (0 : Int)), AV.lit (Value.int IntKind.u64 (0 : Int)), AV.lit (Value.int IntKind.i64 (0 : Int)), AV.lit (Value.int IntKind.i64 (0 : Int))]))) = l ∧ Int.toNat (↑(List.length l) : Int) = List.length es ∧ some (Blk.mk true (nat_lit 37) (7 : Nat) true l) = some (Blk.mk true (37 : TypeId) (7 : Nat) true es)) := by kernel_rfl

theorem writes8b_run (c : Int) (l : List AV) (r : AV) : run [] Try.prog 16 [.ptr 0 0 0 true] (bkH false c l) [] (yields (.v r)) =
    (AV.int IntKind.i64 c = r) := by kernel_rfl

theorem copy8_run (c : Int) (l : List AV) (es : List AV) : run [] Try.prog 12 [.ptr 0 0 0 true] (bkH false c l) [.ix l.length, .rows l] (yields (.obj bkT es [])) =
    (((0 : Int) ≤ (↑(List.length l) : Int) ∧ (↑(List.length l) : Int) ≤ (↑(List.length l) : Int) ∧ (↑(List.length l) : Int) ≤ (9223372036854775807 : Int) ∧ (↑(56 : Nat) : Int) * (↑(List.length l) : Int) ≤ (281474976710656 : Int) ∧ (0 : Nat) < (7 : Nat)) ∧ (List.length l = Min.min (List.length l) (Int.toNat (↑(List.length l) : Int)) ∧ (0 : Nat) + Int.toNat (↑(List.length l) : Int) ≤ List.length ((List.replicate (Int.toNat (↑(List.length l) : Int)) (AV.agg [AV.lit (Value.bool false), AV.lit (Value.int IntKind.u64 (0 : Int)), AV.lit (Value.int IntKind.u64 (0 : Int)), AV.lit (Value.int IntKind.u64 (0 : Int)), AV.lit (Value.int IntKind.u64 (0 : Int)), AV.lit (Value.int IntKind.i64 (0 : Int)), AV.lit (Value.int IntKind.i64 (0 : Int))]))) ∧ (0 : Nat) + List.length l ≤ List.length l) ∧ [] ++ List.take (List.length l) (List.drop (0 : Nat) l) ++ List.drop ((0 : Nat) + List.length l) ((List.replicate (Int.toNat (↑(List.length l) : Int)) (AV.agg [AV.lit (Value.bool false), AV.lit (Value.int IntKind.u64 (0 : Int)), AV.lit (Value.int IntKind.u64 (0 : Int)), AV.lit (Value.int IntKind.u64 (0 : Int)), AV.lit (Value.int IntKind.u64 (0 : Int)), AV.lit (Value.int IntKind.i64 (0 : Int)), AV.lit (Value.int IntKind.i64 (0 : Int))]))) = l ∧ nat_lit 84 = nat_lit 84 ∧ ∃ (c_1 : Int), ∃ (l_1 : List AV), es = AV.int IntKind.i64 c_1 :: l_1 ∧ [some (Blk.mk true (nat_lit 84) (2 : Nat) false [AV.agg [AV.slice ((0 : Nat) + (1 : Nat)) (0 : Nat) (Int.toNat (↑(List.length l) : Int)) (false && false), AV.int IntKind.i64 c]]), some (Blk.mk true (nat_lit 37) (7 : Nat) true l)] = [some (Blk.mk true (nat_lit 84) (2 : Nat) false [AV.agg [AV.slice (1 : Nat) (0 : Nat) (List.length l_1) false, AV.int IntKind.i64 c_1]]), some (Blk.mk true (37 : TypeId) (7 : Nat) true l_1)]) := by kernel_rfl

theorem read8_run (c : Int) (l : List Sl) (k : Int) (r : AV) : run [] Try.prog 20 [.ptr 0 0 0 true, .int .i64 k] (bkH false c (l.map slE)) [.fork [.fork [] [.dy, .cell (slE (at' l k.toNat))]] []] (yields (.v r)) =
    ((Decidable.decide ((0 : Int) ≤ k) = true → ((!Decidable.decide (k < (↑(List.length (List.map slE l)) : Int))) = true → AV.tuple [AV.agg [AV.bool false, AV.w64 (BitVec.ofInt (64 : Nat) (0 : Int)), AV.w64 (BitVec.ofInt (64 : Nat) (0 : Int)), AV.w64 (BitVec.ofInt (64 : Nat) (0 : Int)), AV.w64 (BitVec.ofInt (64 : Nat) (0 : Int)), AV.int IntKind.i64 (0 : Int), AV.int IntKind.i64 (0 : Int)], AV.int IntKind.i64 (5 : Int)] = r) ∧ ((!Decidable.decide (k < (↑(List.length (List.map slE l)) : Int))) = false → ((0 : Int) ≤ k ∧ k < (↑(List.length (List.map slE l)) : Int)) ∧ Blk.read Proofs.Try.prog (Blk.mk false (37 : TypeId) (7 : Nat) true (List.map slE l)) (37 : Nat) ((0 : Nat) + Int.toNat k) (0 : Nat) = some (AV.agg [AV.bool (at' l (Int.toNat k)).1, AV.w64 (Sl.e (at' l (Int.toNat k))).1, AV.w64 (Sl.e (at' l (Int.toNat k))).2, AV.w64 (Sl.e (at' l (Int.toNat k))).3, AV.w64 (Sl.e (at' l (Int.toNat k))).4, AV.int IntKind.i64 (Sl.e (at' l (Int.toNat k))).5, AV.int IntKind.i64 (Sl.e (at' l (Int.toNat k))).6]) ∧ AV.tuple [AV.agg [AV.bool (at' l (Int.toNat k)).1, AV.w64 (Sl.e (at' l (Int.toNat k))).1, AV.w64 (Sl.e (at' l (Int.toNat k))).2, AV.w64 (Sl.e (at' l (Int.toNat k))).3, AV.w64 (Sl.e (at' l (Int.toNat k))).4, AV.int IntKind.i64 (Sl.e (at' l (Int.toNat k))).5, AV.int IntKind.i64 (Sl.e (at' l (Int.toNat k))).6], AV.int IntKind.i64 (0 : Int)] = r)) ∧ (Decidable.decide ((0 : Int) ≤ k) = false → AV.tuple [AV.agg [AV.bool false, AV.w64 (BitVec.ofInt (64 : Nat) (0 : Int)), AV.w64 (BitVec.ofInt (64 : Nat) (0 : Int)), AV.w64 (BitVec.ofInt (64 : Nat) (0 : Int)), AV.w64 (BitVec.ofInt (64 : Nat) (0 : Int)), AV.int IntKind.i64 (0 : Int), AV.int IntKind.i64 (0 : Int)], AV.int IntKind.i64 (5 : Int)] = r)) := by kernel_rfl

noncomputable def sr8Cs : List (FuncId × Sx.Spec) := [(40, genSpec [pSl, none] find8F)]

theorem search8_run (c : Int) (l : List AV) (a b : BitVec 64) (r : AV) : run sr8Cs Try.prog 21 [.ptr 0 0 0 true, .agg [.w64 a, .w64 b]] (bkH false c l) [] (yields (.v r)) =
    ((0 : Nat) + List.length l ≤ List.length l ∧ List.take (List.length l) (List.drop (0 : Nat) l) = List.map slE (deS (List.take (List.length l) (List.drop (0 : Nat) l))) ∧ List.length (deS (List.take (List.length l) (List.drop (0 : Nat) l))) ≤ (9223372036854775807 : Nat) ∧ AV.tuple [AV.int IntKind.i64 (mx0 (fnS (deS (List.take (List.length l) (List.drop (0 : Nat) l))) a b)), AV.bool (Decidable.decide (fnS (deS (List.take (List.length l) (List.drop (0 : Nat) l))) a b ≥ (0 : Int)))] = r) := by kernel_rfl

noncomputable def do8Cs : List (FuncId × Sx.Spec) := [(27, genSpec [none, none] gmay8F)]

theorem do8_run (c : Int) (l l2 : List AV) (p : Int) (o : Bool) (v w m n : BitVec 64) (k j : Int) (es : List AV) (y : AV) : run do8Cs Try.prog 13 [.ptr 0 0 0 true, .agg [.int .i64 p, .bool o, .w64 v, .w64 w, .w64 m, .w64 n, .int .i64 k, .int .i64 j]] (bkH true c l) [.fork [.fork [] [.fork [] [.dy, .rows l2, .nw]]] []] (turns bkT es y) =
    ((Decidable.decide ((0 : Int) ≤ p) = true → ((!Decidable.decide (p < (↑(List.length l) : Int))) = true → AV.int IntKind.i64 (5 : Int) = y ∧ nat_lit 84 = nat_lit 84 ∧ ∃ (c_1 : Int), ∃ (l_1 : List AV), es = AV.int IntKind.i64 c_1 :: l_1 ∧ [some (Blk.mk true (nat_lit 84) (2 : Nat) false [AV.agg [AV.slice ((0 : Nat) + (1 : Nat)) (0 : Nat) (List.length l) false, AV.int IntKind.i64 c]]), some (Blk.mk true (37 : TypeId) (7 : Nat) true l)] = [some (Blk.mk true (nat_lit 84) (2 : Nat) false [AV.agg [AV.slice (1 : Nat) (0 : Nat) (List.length l_1) false, AV.int IntKind.i64 c_1]]), some (Blk.mk true (37 : TypeId) (7 : Nat) true l_1)]) ∧ ((!Decidable.decide (p < (↑(List.length l) : Int))) = false → ((!mayS (Wr.mk p (Sl.mk o (En.mk v w m n k j))) (↑(List.length l) : Int)) = true → AV.int IntKind.i64 (1 : Int) = y ∧ nat_lit 84 = nat_lit 84 ∧ ∃ (c_1 : Int), ∃ (l_1 : List AV), es = AV.int IntKind.i64 c_1 :: l_1 ∧ [some (Blk.mk true (nat_lit 84) (2 : Nat) false [AV.agg [AV.slice ((0 : Nat) + (1 : Nat)) (0 : Nat) (List.length l) false, AV.int IntKind.i64 c]]), some (Blk.mk true (37 : TypeId) (7 : Nat) true l)] = [some (Blk.mk true (nat_lit 84) (2 : Nat) false [AV.agg [AV.slice (1 : Nat) (0 : Nat) (List.length l_1) false, AV.int IntKind.i64 c_1]]), some (Blk.mk true (37 : TypeId) (7 : Nat) true l_1)]) ∧ ((!mayS (Wr.mk p (Sl.mk o (En.mk v w m n k j))) (↑(List.length l) : Int)) = false → ((0 : Int) ≤ p ∧ p < (↑(List.length l) : Int)) ∧ Blk.fits (Blk.mk true (37 : TypeId) (7 : Nat) true l) ((0 : Nat) + Int.toNat p) (0 : Nat) (AV.agg [AV.bool o, AV.w64 v, AV.w64 w, AV.w64 m, AV.w64 n, AV.int IntKind.i64 k, AV.int IntKind.i64 j]) = true ∧ Blk.writes (Blk.mk true (37 : TypeId) (7 : Nat) true l) ((0 : Nat) + Int.toNat p) (0 : Nat) (AV.agg [AV.bool o, AV.w64 v, AV.w64 w, AV.w64 m, AV.w64 n, AV.int IntKind.i64 k, AV.int IntKind.i64 j]) l2 ∧ inRange IntKind.i64 (c + (1 : Int)) ∧ AV.int IntKind.i64 (0 : Int) = y ∧ nat_lit 84 = nat_lit 84 ∧ ∃ (c_1 : Int), ∃ (l_1 : List AV), es = AV.int IntKind.i64 c_1 :: l_1 ∧ [some (Blk.mk true (nat_lit 84) (2 : Nat) false [AV.agg [AV.slice ((0 : Nat) + (1 : Nat)) (0 : Nat) (List.length l) false, AV.int IntKind.i64 (c + (1 : Int))]]), some (Blk.mk true (nat_lit 37) (7 : Nat) true l2)] = [some (Blk.mk true (nat_lit 84) (2 : Nat) false [AV.agg [AV.slice (1 : Nat) (0 : Nat) (List.length l_1) false, AV.int IntKind.i64 c_1]]), some (Blk.mk true (37 : TypeId) (7 : Nat) true l_1)]))) ∧ (Decidable.decide ((0 : Int) ≤ p) = false → AV.int IntKind.i64 (5 : Int) = y ∧ nat_lit 84 = nat_lit 84 ∧ ∃ (c_1 : Int), ∃ (l_1 : List AV), es = AV.int IntKind.i64 c_1 :: l_1 ∧ [some (Blk.mk true (nat_lit 84) (2 : Nat) false [AV.agg [AV.slice ((0 : Nat) + (1 : Nat)) (0 : Nat) (List.length l) false, AV.int IntKind.i64 c]]), some (Blk.mk true (37 : TypeId) (7 : Nat) true l)] = [some (Blk.mk true (nat_lit 84) (2 : Nat) false [AV.agg [AV.slice (1 : Nat) (0 : Nat) (List.length l_1) false, AV.int IntKind.i64 c_1]]), some (Blk.mk true (37 : TypeId) (7 : Nat) true l_1)])) := by kernel_rfl

theorem new8_run (n : Int) (z : List AV) : run [] Try.prog 10 [.int .i64 n] [] [.fork [] [.fork [] [.arr]]] (yields (.many [.obj bkT (.int .i64 0 :: z), .v (.int .i64 0)])) =
    ((Decidable.decide (n < (1 : Int)) = true → False) ∧ (Decidable.decide (n < (1 : Int)) = false → (Decidable.decide (n > (256 : Int)) = true → False) ∧ (Decidable.decide (n > (256 : Int)) = false → ((0 : Int) ≤ n ∧ n ≤ n ∧ n ≤ (9223372036854775807 : Int) ∧ (↑(56 : Nat) : Int) * n ≤ (281474976710656 : Int) ∧ (0 : Nat) < (7 : Nat)) ∧ (nat_lit 84 = nat_lit 84 ∧ ∃ (c : Int), ∃ (l : List AV), AV.int IntKind.i64 (0 : Int) :: z = AV.int IntKind.i64 c :: l ∧ [some (Blk.mk true (nat_lit 84) (2 : Nat) false [AV.agg [AV.slice ((0 : Nat) + (1 : Nat)) (0 : Nat) (Int.toNat n) (false && false), AV.int IntKind.i64 (0 : Int)]]), some (Blk.mk true (37 : Nat) (7 : Nat) true (List.replicate (Int.toNat n) (AV.agg [AV.bool false, AV.w64 (BitVec.ofInt (64 : Nat) (0 : Int)), AV.w64 (BitVec.ofInt (64 : Nat) (0 : Int)), AV.w64 (BitVec.ofInt (64 : Nat) (0 : Int)), AV.w64 (BitVec.ofInt (64 : Nat) (0 : Int)), AV.int IntKind.i64 (0 : Int), AV.int IntKind.i64 (0 : Int)])))] = [some (Blk.mk true (nat_lit 84) (2 : Nat) false [AV.agg [AV.slice (1 : Nat) (0 : Nat) (List.length l) false, AV.int IntKind.i64 c]]), some (Blk.mk true (37 : TypeId) (7 : Nat) true l)]) ∧ AV.int IntKind.i64 (0 : Int) = AV.int IntKind.i64 (0 : Int) ∧ True))) := by kernel_rfl

theorem newbad8_run (n : Int) (r : AV) : run [] Try.prog 10 [.int .i64 n] [] [.fork [] [.fork [] [.arr]]] (yields (.v r)) =
    ((Decidable.decide (n < (1 : Int)) = true → AV.tuple [AV.val (Value.pointer none), AV.int IntKind.i64 (1 : Int)] = r) ∧ (Decidable.decide (n < (1 : Int)) = false → (Decidable.decide (n > (256 : Int)) = true → AV.tuple [AV.val (Value.pointer none), AV.int IntKind.i64 (1 : Int)] = r) ∧ (Decidable.decide (n > (256 : Int)) = false → ((0 : Int) ≤ n ∧ n ≤ n ∧ n ≤ (9223372036854775807 : Int) ∧ (↑(56 : Nat) : Int) * n ≤ (281474976710656 : Int) ∧ (0 : Nat) < (7 : Nat)) ∧ AV.tuple [AV.ptr (List.length [some (Blk.mk true (37 : Nat) (7 : Nat) true (List.replicate (Int.toNat n) (AV.agg [AV.bool false, AV.w64 (BitVec.ofInt (64 : Nat) (0 : Int)), AV.w64 (BitVec.ofInt (64 : Nat) (0 : Int)), AV.w64 (BitVec.ofInt (64 : Nat) (0 : Int)), AV.w64 (BitVec.ofInt (64 : Nat) (0 : Int)), AV.int IntKind.i64 (0 : Int), AV.int IntKind.i64 (0 : Int)])))]) (0 : Nat) (0 : Nat) true, AV.int IntKind.i64 (0 : Int)] = r))) := by kernel_rfl

theorem nraw8 : ∀ es m, ¬ rawO bkT es m := fun _ _ h => h.elim (fun h => absurd h.1 (by decide)) fun h => h

theorem gslots8_ok : SpecOK Try.prog 18 (readSpec bkT [] gslots8F) := by
  refine readSpec_ok none_ok nraw8 fun h0 es xs R hrep hF => ?_
  unfold gslots8F at hF
  split at hF
  · rename_i c l
    obtain ⟨_, c', l', e, rfl⟩ := hrep
    cases e
    obtain ⟨hr, hl, hF⟩ := hF
    refine ⟨_, hF, trivial, [.ix l.length, .rows l], ?_⟩
    show run [] Try.prog _ [.ptr 0 0 0 true] (bkH false c l) _ _
    have hm : l.length ≤ 256 := by rw [hr, List.length_map]; exact hl
    rw [slots8_run, ← hr, Int.toNat_natCast, List.length_replicate]
    refine ⟨⟨by omega, by omega, by omega, by omega, by decide⟩, ⟨by omega, by omega, by omega⟩, ?_, rfl, rfl⟩
    rw [List.nil_append, List.drop_zero, List.take_length, List.drop_eq_nil_of_le (by rw [List.length_replicate]; omega), List.append_nil]
  · exact hF.elim

theorem gwrites8_ok : SpecOK Try.prog 16 (readSpec bkT [] gwrites8F) := by
  refine readSpec_ok none_ok nraw8 fun h0 es xs R hrep hF => ?_
  unfold gwrites8F at hF
  split at hF
  · rename_i c l
    obtain ⟨_, c', l', e, rfl⟩ := hrep
    cases e
    refine ⟨_, hF, rfl, [], ?_⟩
    show run [] Try.prog _ [.ptr 0 0 0 true] (bkH false c l) _ _
    rw [writes8b_run]
  · exact hF.elim

theorem gcopy8_ok : SpecOK Try.prog 12 (readSpec bkT [] gcopy8F) := by
  refine readSpec_ok none_ok nraw8 fun h0 es xs R hrep hF => ?_
  unfold gcopy8F at hF
  split at hF
  · rename_i c l
    obtain ⟨_, c', l', e, rfl⟩ := hrep
    cases e
    obtain ⟨hr, hl, hF⟩ := hF
    refine ⟨_, hF, rfl, [.ix l.length, .rows l], ?_⟩
    show run [] Try.prog _ [.ptr 0 0 0 true] (bkH false c l) _ _
    have hm : l.length ≤ 256 := by rw [hr, List.length_map]; exact hl
    rw [copy8_run, ← hr, Int.toNat_natCast, List.length_replicate]
    refine ⟨⟨by omega, by omega, by omega, by omega, by decide⟩, ⟨by omega, by omega, by omega⟩, ?_, rfl, c, l, rfl, rfl⟩
    rw [List.nil_append, List.drop_zero, List.take_length, List.drop_eq_nil_of_le (by rw [List.length_replicate]; omega), List.append_nil]
  · exact hF.elim

theorem gread8_ok : SpecOK Try.prog 20 (readSpec bkT [none] gread8F) := by
  refine readSpec_ok none_ok nraw8 fun h0 es xs R hrep hF => ?_
  unfold gread8F at hF
  split at hF
  · rename_i c r_l k
    obtain ⟨_, c', l', e, rfl⟩ := hrep
    cases e
    obtain ⟨hr, hl, hF⟩ := hF
    generalize deS r_l = l at hr hl hF
    subst hr
    refine ⟨_, hF, rfl, [.fork [.fork [] [.dy, .cell (slE (at' l k.toNat))]] []], ?_⟩
    show run [] Try.prog _ [.ptr 0 0 0 true, .int .i64 k] (bkH false c (l.map slE)) _ _
    rw [read8_run]
    have out : ¬ (0 ≤ k ∧ k < l.length) → AV.tuple [AV.agg [.bool false, .w64 (BitVec.ofInt 64 0), .w64 (BitVec.ofInt 64 0), .w64 (BitVec.ofInt 64 0), .w64 (BitVec.ofInt 64 0), .int .i64 0, .int .i64 0], .int .i64 5] =
        .tuple [.agg [.bool (rdS l k).ok, .w64 (rdS l k).e.v, .w64 (rdS l k).e.w, .w64 (rdS l k).e.m, .w64 (rdS l k).e.n, .int .i64 (rdS l k).e.len, .int .i64 (rdS l k).e.act], .int .i64 (reS l k)] := fun h => by rw [(rdS_out h).1, (rdS_out h).2]; rfl
    refine ⟨fun h1 => ⟨fun h2 => out ?_, fun h2 => ?_⟩, fun h1 => out ?_⟩
    · have := of_decide_eq_false (notTT h2); rw [List.length_map] at this; omega
    · have h1 := of_decide_eq_true h1
      have h2 := of_decide_eq_true (notF h2)
      have hk : 0 ≤ k ∧ k < l.length := by rw [List.length_map] at h2; exact ⟨h1, h2⟩
      refine ⟨⟨h1, h2⟩, read_rows h1 h2 (sl_whole _), ?_⟩
      rw [(rdS_in hk).1, (rdS_in hk).2]
    · have := of_decide_eq_false h1; omega
  · exact hF.elim

theorem sr8Cs_ok : ∀ e ∈ sr8Cs, SpecOK Try.prog e.1 e.2 := by
  intro e he
  simp only [sr8Cs, List.mem_cons, List.not_mem_nil, or_false] at he
  subst he
  exact gfind8_ok

theorem gsearch8_ok : SpecOK Try.prog 21 (readSpec bkT [none] gsearch8F) := by
  refine readSpec_ok (run_ok (l := sr8Cs) sr8Cs_ok mixed noNG) nraw8 fun h0 es xs R hrep hF => ?_
  unfold gsearch8F at hF
  split at hF
  · rename_i c l a b
    obtain ⟨_, c', l', e, rfl⟩ := hrep
    cases e
    obtain ⟨hr, hl, hF⟩ := hF
    refine ⟨_, hF, rfl, [], ?_⟩
    show run sr8Cs Try.prog _ [.ptr 0 0 0 true, .agg [.w64 a, .w64 b]] (bkH false c l) _ _
    rw [search8_run, List.drop_zero, List.take_length]
    exact ⟨by omega, hr, by omega, rfl⟩
  · exact hF.elim

theorem do8Cs_ok : ∀ e ∈ do8Cs, SpecOK Try.prog e.1 e.2 := by
  intro e he
  simp only [do8Cs, List.mem_cons, List.not_mem_nil, or_false] at he
  subst he
  exact gmay8_ok

theorem gdo8_ok : SpecOK Try.prog 13 (mutSpec bkT [none] gdo8F) := by
  refine mutSpec_ok (run_ok (l := do8Cs) do8Cs_ok mixed noNG) nraw8 fun h0 es xs R hrep hF => ?_
  unfold gdo8F at hF
  split at hF
  · rename_i c r_l p o v w m n k j
    obtain ⟨_, c', l', e, rfl⟩ := hrep
    cases e
    obtain ⟨hr, hl, h0, hc, hF⟩ := hF
    generalize deS r_l = l at hr hl hF
    subst hr
    refine ⟨_, _, hF, rfl, .fork [.fork [] [.fork [] [.dy, .rows ((apS l ⟨p, ⟨o, ⟨v, w, m, n, k, j⟩⟩⟩).map slE), .nw]]] [] :: [], ?_⟩
    show run do8Cs Try.prog _ [.ptr 0 0 0 true, .agg [.int .i64 p, .bool o, .w64 v, .w64 w, .w64 m, .w64 n, .int .i64 k, .int .i64 j]] (bkH true c (l.map slE)) _ _
    rw [do8_run]
    have no : ∀ {e : Int}, mayS ⟨p, ⟨o, ⟨v, w, m, n, k, j⟩⟩⟩ l.length = false → erS ⟨p, ⟨o, ⟨v, w, m, n, k, j⟩⟩⟩ l.length = e → AV.int .i64 e = .int .i64 (erS ⟨p, ⟨o, ⟨v, w, m, n, k, j⟩⟩⟩ l.length) ∧ bkT = bkT ∧ ∃ (c1 : Int) (l1 : List AV), (AV.int .i64 (cnS c ⟨p, ⟨o, ⟨v, w, m, n, k, j⟩⟩⟩ l.length) :: (apS l ⟨p, ⟨o, ⟨v, w, m, n, k, j⟩⟩⟩).map slE) = .int .i64 c1 :: l1 ∧ bkH true c (l.map slE) = bkH true c1 l1 := fun h1 h2 => by
      refine ⟨by rw [h2], rfl, c, l.map slE, ?_, rfl⟩
      unfold cnS apS
      rw [h1]; rfl
    have mo : ¬ (0 ≤ p ∧ p < l.length) → mayS ⟨p, ⟨o, ⟨v, w, m, n, k, j⟩⟩⟩ l.length = false := fun h => mayS_not h
    refine ⟨fun h1 => ⟨fun h2 => ?_, fun h2 => ?_⟩, fun h1 => ?_⟩
    · have h2 := of_decide_eq_false (notTT h2)
      rw [List.length_map] at h2
      have hn : ¬ (0 ≤ p ∧ p < l.length) := fun h => h2 h.2
      exact no (mo hn) (erS_out hn)
    · have h1 := of_decide_eq_true h1
      have h2 := of_decide_eq_true (notF h2)
      have hk : 0 ≤ p ∧ p < l.length := by rw [List.length_map] at h2; exact ⟨h1, h2⟩
      have eL : ((l.map slE).length : Int) = l.length := by rw [List.length_map]
      refine ⟨fun h3 => no (eL ▸ notTT h3) (erS_bad hk (eL ▸ notTT h3)), fun h3 => ?_⟩
      have h3 : mayS ⟨p, ⟨o, ⟨v, w, m, n, k, j⟩⟩⟩ l.length = true := eL ▸ notF h3
      refine ⟨⟨h1, h2⟩, fit_rows hk.1 (by exact hk.2) rfl, wr_rows (x := ⟨o, ⟨v, w, m, n, k, j⟩⟩) hk.1 hk.2 rfl (by unfold apS; rw [if_pos h3]), inR (by omega) (by omega), by rw [erS_ok h3], rfl, c + 1, _, by unfold cnS; rw [if_pos h3], ?_⟩
      rw [List.length_map, List.length_map, apS_length]
    · have h1 := of_decide_eq_false h1
      have hn : ¬ (0 ≤ p ∧ p < l.length) := fun h => h1 h.1
      exact no (mo hn) (erS_out hn)
  · exact hF.elim

theorem gnew8_ok : SpecOK Try.prog 10 (genSpec [none] gnew8F) := by
  refine genSpec_ok none_ok fun l R hF => ?_
  unfold gnew8F at hF
  split at hF
  · rename_i n
    obtain ⟨h1, h2⟩ := hF
    by_cases hn : 1 ≤ n ∧ n ≤ 256
    · refine ⟨_, h1 hn, rfl, [.fork [] [.fork [] [.arr]]], ?_⟩
      show run [] Try.prog _ [.int .i64 n] [] _ _
      rw [new8_run]
      refine ⟨fun h => ?_, fun _ => ⟨fun h => ?_, fun _ => ⟨⟨by omega, by omega, by omega, by omega, by decide⟩, ⟨rfl, 0, (nwS n).map slE, rfl, ?_⟩, rfl, trivial⟩⟩⟩
      · have := of_decide_eq_true h; omega
      · have := of_decide_eq_true h; omega
      · unfold nwS
        rw [List.map_replicate, List.length_replicate]; rfl
    · refine ⟨_, h2 hn, rfl, [.fork [] [.fork [] [.arr]]], ?_⟩
      show run [] Try.prog _ [.int .i64 n] [] _ _
      rw [newbad8_run]
      refine ⟨fun _ => rfl, fun h => ⟨fun _ => rfl, fun h2 => ?_⟩⟩
      have h := of_decide_eq_false h
      have h2 := of_decide_eq_false h2
      omega
  · exact hF.elim

end Go.Proofs.Yteagcgocmdjobaa.L1
end

section
/-
  Layer 8: what the laws call is as its contracts say.
-/
namespace Go.Proofs.Yteagcgocmdjobaa.L1
open Go.Sx Go.Sx.M

theorem b8Cs_ok : ∀ e ∈ b8Cs, SpecOK Try.prog e.1 e.2 := by
  intro e he
  simp only [b8Cs, List.mem_cons, List.not_mem_nil, or_false] at he
  rcases he with rfl | rfl | rfl | rfl | rfl | rfl | rfl | rfl | rfl | rfl | rfl | rfl
  · exact gnew8_ok
  · exact gdo8_ok
  · exact gread8_ok
  · exact gsearch8_ok
  · exact gslots8_ok
  · exact gwrites8_ok
  · exact gcopy8_ok
  · exact gmay8_ok
  · exact gapply8_ok
  · exact gentries8_ok
  · exact gtell8_ok
  · exact gfree8_ok

theorem awake8Cs_ok : ∀ e ∈ awake8Cs, SpecOK Try.prog e.1 e.2 := by
  intro e he
  unfold awake8Cs at he
  rcases List.mem_cons.1 he with rfl | he
  · exact eof_ok
  · exact b8Cs_ok e he

theorem l8Cs_ok : ∀ e ∈ l8Cs, SpecOK Try.prog e.1 e.2 := by
  intro e he
  unfold l8Cs at he
  rcases List.mem_append.1 he with he | he
  · simp only [List.mem_cons, List.not_mem_nil, or_false] at he
    rcases he with rfl | rfl | rfl | rfl | rfl | rfl | rfl | rfl | rfl | rfl | rfl | rfl | rfl | rfl
    · exact awake8_of awake8Cs_ok
    · exact one8_ok
    · exact of8_ok
    · exact writes8_ok
    · exact same8_ok
    · exact rmay8_ok
    · exact rapply8_ok
    · exact rentries8_ok
    · exact rfind8_ok
    · exact rtell8_ok
    · exact one5_ok
    · exact rordered_ok
    · exact rtell_ok
    · exact etell_ok
  · exact b8Cs_ok e he

end Go.Proofs.Yteagcgocmdjobaa.L1
end

