/-
  Layer 15: the law JobOf.
-/
import Derived.Test.YtbkaibciiogdkaaL15a
namespace Go.Proofs.Ytbkaibciiogdkaa.L1
open Go.Sx Go.Sx.M

def jo15R (j : Int) (l : List Wr) : List AV := (ofM j l).map mvE
def jo15St (j : Int) (l : List Wr) (p : Nat) : St :=
  ⟨[.int .i64 j, .vsl 0 0 (l.map wrE).length, .any, .any, .any, .vsl 1 0 (jo15R j l).length, .any, .any, .any, .any, .any, .any, .any, .any, .any, .any, .any, .any, .any, .any, .int .i64 (jo15R j l).length, .int .i64 p, .any, .any, .any, .any, .any, .any, .any, .any, .any, .any, .any, .any, .any, .any, .any, .any, .any, .any, .any, .any, .any, .any, .any], [some ⟨false, 37, 8, true, l.map wrE⟩, some ⟨true, 39, 9, true, jo15R j l⟩]⟩
def jo15M0 : Modes := ⟨[1, 1, 0, 0, 0, 1, 0, 0, 0, 0, 0, 0, 0, 0, 0, 0, 0, 0, 0, 0, 1, 2, 0, 0, 0, 0, 0, 0, 0, 0, 0, 0, 0, 0, 0, 0, 0, 0, 0, 0, 0, 0, 0, 0, 0], [], [], [], []⟩
def jo15M : Modes := ⟨[1, 1, 0, 0, 0, 1, 0, 0, 0, 0, 0, 0, 0, 0, 0, 0, 0, 0, 0, 0, 1, 1, 0, 0, 0, 0, 0, 0, 0, 0, 0, 0, 0, 0, 0, 0, 0, 0, 0, 0, 0, 0, 0, 0, 0], [], [], [], []⟩
def jo15M' : Modes := ⟨[0, 0, 0, 0, 2, 0, 0, 0, 0, 0, 0, 0, 0, 0, 0, 0, 0, 0, 0, 0, 0, 0, 0, 0, 0, 0, 0, 0, 0, 0, 0, 0, 0, 0, 0, 0, 0, 0, 0, 0, 0, 0, 0, 0, 0], [], [], [], []⟩
def jo15H (j : Int) (l : List Wr) : List Hint := [.fork [] [.nm (jo15R j l), .br false, .linv _ 0 (jo15St j l) (fun p => p ≤ l.length) (fun p => l.length + 1 - p) jo15M0 jo15M jo15M' (fun _ => []) fun p =>
  [.fork [.dy, .cell (.int .i64 (at' (ofM j l) p).b), .fork [] [.dy, .cell (wrE (at' (ofM j l) p).w), .dy, .cell (wrE (at' l p)), .fork [] [.nw]]] []]]]

noncomputable def jo15Cs : List (FuncId × Sx.Spec) := [(9, awakeSpec), (22, genSpec [none, pWr] gof15F)]

theorem jobOf15_run (j : Int) (l : List Wr) : run jo15Cs Try.prog 6 [.int .i64 j, .vsl 0 0 (l.map wrE).length] [some ⟨false, 37, 8, true, l.map wrE⟩] (jo15H j l) isTrue =
    ((Decidable.decide ((↑(List.length (List.map wrE l)) : Int) > (40 : Int)) = true → True ∧ true = true) ∧ (Decidable.decide ((↑(List.length (List.map wrE l)) : Int) > (40 : Int)) = false → (0 : Nat) + List.length (List.map wrE l) ≤ List.length (List.map wrE l) ∧ List.take (List.length (List.map wrE l)) (List.drop (0 : Nat) (List.map wrE l)) = List.map wrE (deW (List.take (List.length (List.map wrE l)) (List.drop (0 : Nat) (List.map wrE l)))) ∧ List.length (deW (List.take (List.length (List.map wrE l)) (List.drop (0 : Nat) (List.map wrE l)))) ≤ (1000000 : Nat) ∧ (List.map mvE (ofM j (deW (List.take (List.length (List.map wrE l)) (List.drop (0 : Nat) (List.map wrE l))))) = jo15R j l ∧ List.length (List.map mvE (ofM j (deW (List.take (List.length (List.map wrE l)) (List.drop (0 : Nat) (List.map wrE l)))))) = List.length (jo15R j l)) ∧ ((↑(List.length (jo15R j l)) : Int) != (↑(List.length (List.map wrE l)) : Int)) = false ∧ (St.mk [AV.int IntKind.i64 j, AV.vsl (0 : Nat) (0 : Nat) (List.length (List.map wrE l)), AV.any, AV.any, AV.any, AV.vsl ((0 : Nat) + (1 : Nat)) (0 : Nat) (List.length (jo15R j l)), AV.any, AV.any, AV.any, AV.any, AV.any, AV.any, AV.any, AV.any, AV.any, AV.any, AV.any, AV.any, AV.any, AV.any, AV.int IntKind.i64 (↑(List.length (jo15R j l)) : Int), AV.int IntKind.i64 (0 : Int), AV.any, AV.any, AV.any, AV.any, AV.any, AV.any, AV.any, AV.any, AV.any, AV.any, AV.any, AV.any, AV.any, AV.any, AV.any, AV.any, AV.any, AV.any, AV.any, AV.any, AV.any, AV.any, AV.any] [some (Blk.mk false (37 : TypeId) (8 : Nat) true (List.map wrE l)), some (Blk.mk true (39 : TypeId) (9 : Nat) true (jo15R j l))] = jo15St j l (0 : Nat) ∧ Nat.le (0 : Nat) (List.length l)) ∧ ∀ (p : Nat), Nat.le p (List.length l) → (Decidable.decide ((↑p : Int) < (↑(List.length (jo15R j l)) : Int)) = true → ((0 : Int) ≤ (↑p : Int) ∧ (↑p : Int) < (↑(List.length (jo15R j l)) : Int)) ∧ Blk.read Proofs.Try.prog (Blk.mk true (39 : TypeId) (9 : Nat) true (jo15R j l)) (3 : Nat) ((0 : Nat) + Int.toNat (↑p : Int)) ((0 : Nat) + (0 : Nat)) = some (AV.int IntKind.i64 (at' (ofM j l) p).1) ∧ (((at' (ofM j l) p).1 != j) = true → false = true) ∧ (((at' (ofM j l) p).1 != j) = false → ((0 : Int) ≤ (↑p : Int) ∧ (↑p : Int) < (↑(List.length (jo15R j l)) : Int)) ∧ Blk.read Proofs.Try.prog (Blk.mk true (39 : TypeId) (9 : Nat) true (jo15R j l)) (37 : Nat) ((0 : Nat) + Int.toNat (↑p : Int)) ((0 : Nat) + (1 : Nat)) = some (AV.agg [AV.int IntKind.i64 (Mv.w (at' (ofM j l) p)).1, AV.bool (Wr.s (Mv.w (at' (ofM j l) p))).1, AV.w64 (Sl.e (Wr.s (Mv.w (at' (ofM j l) p)))).1, AV.w64 (Sl.e (Wr.s (Mv.w (at' (ofM j l) p)))).2, AV.w64 (Sl.e (Wr.s (Mv.w (at' (ofM j l) p)))).3, AV.w64 (Sl.e (Wr.s (Mv.w (at' (ofM j l) p)))).4, AV.int IntKind.i64 (Sl.e (Wr.s (Mv.w (at' (ofM j l) p)))).5, AV.int IntKind.i64 (Sl.e (Wr.s (Mv.w (at' (ofM j l) p)))).6]) ∧ ((0 : Int) ≤ (↑p : Int) ∧ (↑p : Int) < (↑(List.length (List.map wrE l)) : Int)) ∧ Blk.read Proofs.Try.prog (Blk.mk false (37 : TypeId) (8 : Nat) true (List.map wrE l)) (37 : Nat) ((0 : Nat) + Int.toNat (↑p : Int)) (0 : Nat) = some (AV.agg [AV.int IntKind.i64 (at' l p).1, AV.bool (Wr.s (at' l p)).1, AV.w64 (Sl.e (Wr.s (at' l p))).1, AV.w64 (Sl.e (Wr.s (at' l p))).2, AV.w64 (Sl.e (Wr.s (at' l p))).3, AV.w64 (Sl.e (Wr.s (at' l p))).4, AV.int IntKind.i64 (Sl.e (Wr.s (at' l p))).5, AV.int IntKind.i64 (Sl.e (Wr.s (at' l p))).6]) ∧ ((!((Mv.w (at' (ofM j l) p)).1 == (at' l p).1 && ((Wr.s (Mv.w (at' (ofM j l) p))).1 == (Wr.s (at' l p)).1 && ((Sl.e (Wr.s (Mv.w (at' (ofM j l) p)))).1 == (Sl.e (Wr.s (at' l p))).1 && (Sl.e (Wr.s (Mv.w (at' (ofM j l) p)))).2 == (Sl.e (Wr.s (at' l p))).2 && ((Sl.e (Wr.s (Mv.w (at' (ofM j l) p)))).3 == (Sl.e (Wr.s (at' l p))).3 && (Sl.e (Wr.s (Mv.w (at' (ofM j l) p)))).4 == (Sl.e (Wr.s (at' l p))).4) && ((Sl.e (Wr.s (Mv.w (at' (ofM j l) p)))).5 == (Sl.e (Wr.s (at' l p))).5 && (Sl.e (Wr.s (Mv.w (at' (ofM j l) p)))).6 == (Sl.e (Wr.s (at' l p))).6))))) = true → false = true) ∧ ((!((Mv.w (at' (ofM j l) p)).1 == (at' l p).1 && ((Wr.s (Mv.w (at' (ofM j l) p))).1 == (Wr.s (at' l p)).1 && ((Sl.e (Wr.s (Mv.w (at' (ofM j l) p)))).1 == (Sl.e (Wr.s (at' l p))).1 && (Sl.e (Wr.s (Mv.w (at' (ofM j l) p)))).2 == (Sl.e (Wr.s (at' l p))).2 && ((Sl.e (Wr.s (Mv.w (at' (ofM j l) p)))).3 == (Sl.e (Wr.s (at' l p))).3 && (Sl.e (Wr.s (Mv.w (at' (ofM j l) p)))).4 == (Sl.e (Wr.s (at' l p))).4) && ((Sl.e (Wr.s (Mv.w (at' (ofM j l) p)))).5 == (Sl.e (Wr.s (at' l p))).5 && (Sl.e (Wr.s (Mv.w (at' (ofM j l) p)))).6 == (Sl.e (Wr.s (at' l p))).6))))) = false → inRange IntKind.i64 ((↑p : Int) + (1 : Int)) ∧ ∃ (p' : Nat), St.mk [AV.int IntKind.i64 j, AV.vsl (0 : Nat) (0 : Nat) (List.length (List.map wrE l)), AV.any, AV.any, AV.any, AV.vsl ((0 : Nat) + (1 : Nat)) (0 : Nat) (List.length (jo15R j l)), AV.any, AV.any, AV.any, AV.any, AV.any, AV.any, AV.any, AV.any, AV.any, AV.any, AV.any, AV.any, AV.any, AV.any, AV.int IntKind.i64 (↑(List.length (jo15R j l)) : Int), AV.int IntKind.i64 ((↑p : Int) + (1 : Int)), AV.any, AV.any, AV.any, AV.any, AV.any, AV.any, AV.any, AV.any, AV.any, AV.any, AV.any, AV.any, AV.any, AV.any, AV.any, AV.any, AV.any, AV.any, AV.any, AV.any, AV.any, AV.any, AV.any] [some (Blk.mk false (37 : TypeId) (8 : Nat) true (List.map wrE l)), some (Blk.mk true (39 : TypeId) (9 : Nat) true (jo15R j l))] = jo15St j l p' ∧ Nat.le p' (List.length l) ∧ List.length l + (1 : Nat) - p' < List.length l + (1 : Nat) - p))) ∧ (Decidable.decide ((↑p : Int) < (↑(List.length (jo15R j l)) : Int)) = false → True ∧ true = true))) := by kernel_rfl

theorem ofM_at {j : Int} {l : List Wr} {p : Nat} (hp : p < l.length) : at' (ofM j l) p = ⟨j, at' l p⟩ := by
  unfold ofM at'
  rw [List.getD_eq_getElem?_getD, List.getD_eq_getElem?_getD, List.getElem?_map, List.getElem?_eq_getElem hp]
  rfl

theorem jobOf15_law (j : Int) (l : List Wr) : ∃ hs, run jo15Cs Try.prog 6 [.int .i64 j, .vsl 0 0 (l.map wrE).length] [some ⟨false, 37, 8, true, l.map wrE⟩] hs isTrue := by
  refine ⟨(jo15H j l), ?_⟩
  rw [jobOf15_run]
  have hlm : (l.map wrE).length = l.length := List.length_map _
  have hml : (jo15R j l).length = l.length := by unfold jo15R ofM; rw [List.length_map, List.length_map]
  have e0 : List.map mvE (ofM j l) = jo15R j l := rfl
  simp only [whole_row, deW_map, zLe, true_and, and_true, eq_self, eq_Wr, e0]
  refine ⟨fun _ => trivial, fun h40 => ?_⟩
  have h40 := of_decide_eq_false h40
  refine ⟨by omega, by rw [hml, hlm]; simp, ⟨rfl, Nat.zero_le _⟩, ?_⟩
  intro p (hp0 : p ≤ l.length)
  refine ⟨fun hlt => ?_, fun _ => trivial⟩
  have hp : p < l.length := by have := of_decide_eq_true hlt; omega
  have B : 0 ≤ (p : Int) ∧ (p : Int) < ((jo15R j l).length : Int) := by omega
  have B2 : 0 ≤ (p : Int) ∧ (p : Int) < ((l.map wrE).length : Int) := by omega
  have ha := ofM_at (j := j) hp
  refine ⟨B, read_rows (l := ofM j l) (de := mvE) B.1 B.2 (mv_bank _), fun h => ?_, fun _ => ⟨B, read_rows (l := ofM j l) (de := mvE) B.1 B.2 (mv_write _), B2, read_rows B2.1 B2.2 (wr_whole _), fun h => ?_, fun _ => ⟨inR (by omega) (by omega), p + 1, rfl, hp, by omega⟩⟩⟩
  · rw [ha] at h; simp at h
  · rw [ha] at h; simp at h

theorem jo15Cs_ok : ∀ e ∈ jo15Cs, SpecOK Try.prog e.1 e.2 := fun e he => by
  simp only [jo15Cs, List.mem_cons, List.not_mem_nil, or_false] at he
  rcases he with rfl | rfl
  · exact awake15_ok
  · exact gof15_ok

end Go.Proofs.Ytbkaibciiogdkaa.L1
