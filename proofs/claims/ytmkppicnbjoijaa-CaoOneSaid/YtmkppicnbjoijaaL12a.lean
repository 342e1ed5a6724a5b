/-
  Texts in one: L12A L12B L12D.
-/
import Derived.Test.YtmkppicnbjoijaaL8a
import Derived.Test.YtmkppicnbjoijaaMa
import Derived.Test.YtmkppicnbjoijaaL5a
import Derived.Test.YtmkppicnbjoijaaSxU

section
/-
  Layer 12: the document's Kept, Gap, Lengths.
-/
namespace Go.Proofs.Ytmkppicnbjoijaa.L1
open Go.Sx Go.Sx.M

end Go.Proofs.Ytmkppicnbjoijaa.L1
end

section
/-
  Layer 12: the document's below, above, Insert.
-/
namespace Go.Proofs.Ytmkppicnbjoijaa.L1
open Go.Sx Go.Sx.M

end Go.Proofs.Ytmkppicnbjoijaa.L1
end

section
/-
  Layer 12: what the contracts of the program's calls say; the law's Writes, slot.
-/
namespace Go.Proofs.Ytmkppicnbjoijaa.L1
open Go.Sx Go.Sx.M

def gkept12F : List Arg → (Res → Prop) → Prop
  | [.row r_l], R => r_l = (deS r_l).map slE ∧ (deS r_l).length ≤ 1000000 ∧ R (.v (.bool (kpS (deS r_l))))
  | _, _ => False

def ggap12F : List Arg → (Res → Prop) → Prop
  | [.row r_l, .v (.int .i64 n)], R => r_l = (deS r_l).map slE ∧ (deS r_l).length ≤ 1000000 ∧ R (.v (.tuple [.int .i64 (if kpS (deS r_l) then (gfS (deS r_l) n : Int) else 0), .int .i64 (if kpS (deS r_l) then (gtS (deS r_l) n : Int) else 0)]))
  | _, _ => False

theorem eq_Wr {x y : Wr} : (x.p == y.p && (x.s.ok == y.s.ok && (x.s.e.v == y.s.e.v && x.s.e.w == y.s.e.w && (x.s.e.m == y.s.e.m && x.s.e.n == y.s.e.n) && (x.s.e.len == y.s.e.len && x.s.e.act == y.s.e.act)))) = decide (x = y) := by
  obtain ⟨p, s⟩ := x
  obtain ⟨q, t⟩ := y
  rw [eq_Sl, Bool.eq_iff_iff, decide_eq_true_eq]
  simp only [Bool.and_eq_true, beq_iff_eq, decide_eq_true_eq, Wr.mk.injEq]

def wq12St (l m : List Wr) (p : Nat) : St :=
  ⟨[.any, .vsl 1 0 (m.map wrE).length, .any, .any, .any, .vsl 2 0 (l.map wrE).length, .any, .any, .any, .any, .any, .any, .any, .any, .any, .int .i64 (l.map wrE).length, .int .i64 p, .any, .any, .any, .any, .any, .any, .any, .any, .any, .any, .any, .any], [some ⟨false, 64, 8, true, l.map wrE⟩, some ⟨false, 81, 8, true, m.map wrE⟩, some ⟨true, 81, 8, true, l.map wrE⟩]⟩
def wq12M0 : Modes := ⟨[0, 1, 0, 0, 0, 1, 0, 0, 0, 0, 0, 0, 0, 0, 0, 1, 2, 0, 0, 0, 0, 0, 0, 0, 0, 0, 0, 0, 0], [], [], [], []⟩
def wq12M : Modes := ⟨[0, 1, 0, 0, 0, 1, 0, 0, 0, 0, 0, 0, 0, 0, 0, 1, 1, 0, 0, 0, 0, 0, 0, 0, 0, 0, 0, 0, 0], [], [], [], []⟩
def wq12M' : Modes := ⟨[0, 0, 0, 0, 2, 0, 0, 0, 0, 0, 0, 0, 0, 0, 0, 0, 0, 0, 0, 0, 0, 0, 0, 0, 0, 0, 0, 0, 0], [], [], [], []⟩
def wq12I (l m : List Wr) (p : Nat) : Prop := p ≤ l.length ∧ ∀ j, j < p → at' l j = at' m j
def wq12H (l m : List Wr) : List Hint := [.fork [] [.linv _ 0 (wq12St l m) (wq12I l m) (fun p => l.length + 1 - p) wq12M0 wq12M wq12M' (fun _ => []) fun p =>
  [.fork [.dy, .cell (wrE (at' l p)), .dy, .cell (wrE (at' m p)), .fork [] [.nw]] []]]]

def writes12F : List Arg → (Res → Prop) → Prop
  | [.row r_l, .row r_m], R => r_l = (deW r_l).map wrE ∧ (deW r_l).length ≤ 1000000 ∧ r_m = (deW r_m).map wrE ∧ (deW r_m).length ≤ 1000000 ∧ R (.v (.bool (decide ((deW r_l) = (deW r_m)))))
  | _, _ => False

noncomputable def writes12Cs : List (FuncId × Sx.Spec) := [(41, genSpec [pWr] writes8F)]

theorem writes12_run (l m : List Wr) (r : AV) : run writes12Cs Try.prog 14 [.vsl 0 0 (l.map wrE).length, .vsl 1 0 (m.map wrE).length] [some ⟨false, (pWr.getD (0, 0)).1, (pWr.getD (0, 0)).2, true, (l.map wrE)⟩, some ⟨false, (pRefW.getD (0, 0)).1, (pRefW.getD (0, 0)).2, true, (m.map wrE)⟩] (wq12H l m) (yields (.v r)) =
    ((0 : Nat) + List.length (List.map wrE l) ≤ List.length (List.map wrE l) ∧ List.take (List.length (List.map wrE l)) (List.drop 0 (List.map wrE l)) = List.map wrE (deW (List.take (List.length (List.map wrE l)) (List.drop 0 (List.map wrE l)))) ∧ List.length (deW (List.take (List.length (List.map wrE l)) (List.drop 0 (List.map wrE l)))) ≤ (1000000 : Nat) ∧ (((↑(List.length (List.map wrE (deW (List.take (List.length (List.map wrE l)) (List.drop 0 (List.map wrE l)))))) : Int) != (↑(List.length (List.map wrE m)) : Int)) = true → AV.bool false = r) ∧ (((↑(List.length (List.map wrE (deW (List.take (List.length (List.map wrE l)) (List.drop 0 (List.map wrE l)))))) : Int) != (↑(List.length (List.map wrE m)) : Int)) = false → (St.mk [.any, AV.vsl ((0 : Nat) + (1 : Nat)) 0 (List.length (List.map wrE m)), .any, .any, .any, AV.vsl ((0 : Nat) + (1 : Nat) + (1 : Nat)) 0 (List.length (List.map wrE (deW (List.take (List.length (List.map wrE l)) (List.drop 0 (List.map wrE l)))))), .any, .any, .any, .any, .any, .any, .any, .any, .any, AV.int IntKind.i64 (↑(List.length (List.map wrE (deW (List.take (List.length (List.map wrE l)) (List.drop 0 (List.map wrE l)))))) : Int), AV.int IntKind.i64 0, .any, .any, .any, .any, .any, .any, .any, .any, .any, .any, .any, .any] [some (Blk.mk false (64 : TypeId) 8 true (List.map wrE l)), some (Blk.mk false (81 : TypeId) 8 true (List.map wrE m)), some (Blk.mk true (81 : TypeId) 8 true (List.map wrE (deW (List.take (List.length (List.map wrE l)) (List.drop 0 (List.map wrE l))))))] = wq12St l m 0 ∧ wq12I l m 0) ∧ ∀ (p : Nat), wq12I l m p → (Decidable.decide ((↑p : Int) < (↑(List.length (List.map wrE l)) : Int)) = true → ((0 : Int) ≤ (↑p : Int) ∧ (↑p : Int) < (↑(List.length (List.map wrE l)) : Int)) ∧ Blk.read Proofs.Try.prog (Blk.mk true (81 : TypeId) 8 true (List.map wrE l)) 81 ((0 : Nat) + Int.toNat (↑p : Int)) 0 = some (AV.agg [AV.int IntKind.i64 (at' l p).1, AV.bool (Wr.s (at' l p)).1, AV.w64 (Sl.e (Wr.s (at' l p))).1, AV.w64 (Sl.e (Wr.s (at' l p))).2, AV.w64 (Sl.e (Wr.s (at' l p))).3, AV.w64 (Sl.e (Wr.s (at' l p))).4, AV.int IntKind.i64 (Sl.e (Wr.s (at' l p))).5, AV.int IntKind.i64 (Sl.e (Wr.s (at' l p))).6]) ∧ ((0 : Int) ≤ (↑p : Int) ∧ (↑p : Int) < (↑(List.length (List.map wrE m)) : Int)) ∧ Blk.read Proofs.Try.prog (Blk.mk false (81 : TypeId) 8 true (List.map wrE m)) 81 ((0 : Nat) + Int.toNat (↑p : Int)) 0 = some (AV.agg [AV.int IntKind.i64 (at' m p).1, AV.bool (Wr.s (at' m p)).1, AV.w64 (Sl.e (Wr.s (at' m p))).1, AV.w64 (Sl.e (Wr.s (at' m p))).2, AV.w64 (Sl.e (Wr.s (at' m p))).3, AV.w64 (Sl.e (Wr.s (at' m p))).4, AV.int IntKind.i64 (Sl.e (Wr.s (at' m p))).5, AV.int IntKind.i64 (Sl.e (Wr.s (at' m p))).6]) ∧ ((!((at' l p).1 == (at' m p).1 && ((Wr.s (at' l p)).1 == (Wr.s (at' m p)).1 && ((Sl.e (Wr.s (at' l p))).1 == (Sl.e (Wr.s (at' m p))).1 && (Sl.e (Wr.s (at' l p))).2 == (Sl.e (Wr.s (at' m p))).2 && ((Sl.e (Wr.s (at' l p))).3 == (Sl.e (Wr.s (at' m p))).3 && (Sl.e (Wr.s (at' l p))).4 == (Sl.e (Wr.s (at' m p))).4) && ((Sl.e (Wr.s (at' l p))).5 == (Sl.e (Wr.s (at' m p))).5 && (Sl.e (Wr.s (at' l p))).6 == (Sl.e (Wr.s (at' m p))).6))))) = true → AV.bool false = r) ∧ ((!((at' l p).1 == (at' m p).1 && ((Wr.s (at' l p)).1 == (Wr.s (at' m p)).1 && ((Sl.e (Wr.s (at' l p))).1 == (Sl.e (Wr.s (at' m p))).1 && (Sl.e (Wr.s (at' l p))).2 == (Sl.e (Wr.s (at' m p))).2 && ((Sl.e (Wr.s (at' l p))).3 == (Sl.e (Wr.s (at' m p))).3 && (Sl.e (Wr.s (at' l p))).4 == (Sl.e (Wr.s (at' m p))).4) && ((Sl.e (Wr.s (at' l p))).5 == (Sl.e (Wr.s (at' m p))).5 && (Sl.e (Wr.s (at' l p))).6 == (Sl.e (Wr.s (at' m p))).6))))) = false → inRange IntKind.i64 ((↑p : Int) + (1 : Int)) ∧ ∃ (p' : Nat), St.mk [.any, AV.vsl ((0 : Nat) + (1 : Nat)) 0 (List.length (List.map wrE m)), .any, .any, .any, AV.vsl ((0 : Nat) + (1 : Nat) + (1 : Nat)) 0 (List.length (List.map wrE l)), .any, .any, .any, .any, .any, .any, .any, .any, .any, AV.int IntKind.i64 (↑(List.length (List.map wrE l)) : Int), AV.int IntKind.i64 ((↑p : Int) + (1 : Int)), .any, .any, .any, .any, .any, .any, .any, .any, .any, .any, .any, .any] [some (Blk.mk false (64 : TypeId) 8 true (List.map wrE l)), some (Blk.mk false (81 : TypeId) 8 true (List.map wrE m)), some (Blk.mk true (81 : TypeId) 8 true (List.map wrE l))] = wq12St l m p' ∧ wq12I l m p' ∧ List.length l + (1 : Nat) - p' < List.length l + (1 : Nat) - p)) ∧ (Decidable.decide ((↑p : Int) < (↑(List.length (List.map wrE l)) : Int)) = false → AV.bool true = r))) := by kernel_rfl

theorem writes12Cs_ok : ∀ e ∈ writes12Cs, SpecOK Try.prog e.1 e.2 := by
  intro e he
  simp only [writes12Cs, List.mem_cons, List.not_mem_nil, or_false] at he
  rcases he with rfl
  · exact writes8_ok

theorem writes12_ok : SpecOK Try.prog 14 (genSpec [pWr, pRefW] writes12F) := by
  refine genSpec_ok (run_ok (l := writes12Cs) writes12Cs_ok mixed noNG) fun l R hF => ?_
  unfold writes12F at hF
  split at hF
  · rename_i r_l r_m
    obtain ⟨hr_l, hl, hF⟩ := hF
    generalize deW r_l = l at hr_l hl hF
    subst hr_l
    obtain ⟨hr_m, hm, hF⟩ := hF
    generalize deW r_m = m at hr_m hm hF
    subst hr_m
    refine ⟨_, hF, rfl, (wq12H l m), ?_⟩
    show run writes12Cs Try.prog _ [.vsl 0 0 (l.map wrE).length, .vsl 1 0 (m.map wrE).length] [some ⟨false, (pWr.getD (0, 0)).1, (pWr.getD (0, 0)).2, true, (l.map wrE)⟩, some ⟨false, (pRefW.getD (0, 0)).1, (pRefW.getD (0, 0)).2, true, (m.map wrE)⟩] _ _
    rw [writes12_run]
    simp only [eq_Wr, whole_row, deW_map, zLe, true_and, eq_self, hl]
    refine ⟨fun h => ?_, fun h => ⟨⟨rfl, Nat.zero_le _, fun j hj => by omega⟩, ?_⟩⟩
    · have h : l.length ≠ m.length := by simp at h; omega
      rw [decide_eq_false fun e => h (by rw [e])]
    · have h : l.length = m.length := by simp at h; omega
      rintro p ⟨h1, h2⟩
      refine ⟨fun hlt => ?_, fun hge => ?_⟩
      · have hp : p < l.length := by simp only [decide_eq_true_eq, List.length_map] at hlt; omega
        have B : 0 ≤ (p : Int) ∧ (p : Int) < ((l.map wrE).length : Int) := by rw [List.length_map]; omega
        have B2 : 0 ≤ (p : Int) ∧ (p : Int) < ((m.map wrE).length : Int) := by rw [List.length_map]; omega
        refine ⟨B, read_rows B.1 B.2 (rwr_whole _), B2, read_rows B2.1 B2.2 (rwr_whole _), fun hne => ?_, fun he => ⟨inR (by omega) (by omega), p + 1, rfl, ⟨by omega, up h2 ?_⟩, by omega⟩⟩
        · have hne : at' l p ≠ at' m p := by simpa using hne
          rw [decide_eq_false fun e => hne (by rw [e])]
        · simpa using he
      · have hp : p = l.length := by simp only [decide_eq_false_iff_not, List.length_map] at hge; omega
        subst hp
        rw [decide_eq_true (show l = m from List.ext_getElem h fun j a b => by rw [← at_eq a, ← at_eq b]; exact h2 j a)]
  · exact hF.elim


end Go.Proofs.Ytmkppicnbjoijaa.L1
end

