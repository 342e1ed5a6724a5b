/-
  The law AddrCounts: how many bits are set is how many of all are; with all turned, as many as were not.
-/
import Derived.Test.YtbbiehgdkfgngaaL1FCounts
import Derived.Test.YtbbiehgdkfgngaaL1Op
import Derived.Test.YtbbiehgdkfgngaaL1Ones
import Derived.Test.YtbbiehgdkfgngaaM03
namespace Go.Proofs.Ytbbiehgdkfgngaa.L1
open Go.Sx Go.Sx.M

noncomputable def countsCs : List (FuncId × Sx.Spec) := [(21, awakeSpec), (34, genSpec [none] onesF), (24, genSpec [none] bitsF)]

def countsSt (a b : BitVec 64) (p : Nat × Nat) : St :=
  ⟨[.any, .ptr 0 0 0 true, .any, .int .i64 p.2, .any, .any, .any, .slice 1 0 128 false, .int .i64 128, .int .i64 p.1, .any, .any, .any, .any, .any, .any, .any, .any, .any, .any, .any, .any, .any, .any, .any, .any, .any, .any, .any, .any, .any, .any],
   [some ⟨true, 24, 2, true, [.agg [.w64 a, .w64 b]]⟩, some ⟨true, 4, 1, true, bitsOf a b⟩]⟩

def countsM0 : Modes := ⟨[0, 1, 0, 2, 0, 0, 0, 1, 1, 2, 0, 0, 0, 0, 0, 0, 0, 0, 0, 0, 0, 0, 0, 0, 0, 0, 0, 0, 0, 0, 0, 0], [0, 1], [1, 1], [], []⟩
def countsM : Modes := ⟨[0, 1, 0, 1, 0, 0, 0, 1, 1, 1, 0, 0, 0, 0, 0, 0, 0, 0, 0, 0, 0, 0, 0, 0, 0, 0, 0, 0, 0, 0, 0, 0], [0, 1], [1, 1], [], []⟩

def countsI (a b : BitVec 64) (p : Nat × Nat) : Prop := p.1 ≤ 128 ∧ p.2 = cf (bitAt a b) p.1

def countsH (a b : BitVec 64) : List Hint := [.linv _ (0, 0) (countsSt a b) (countsI a b) (fun p => 200 - p.1) countsM0 countsM countsM (fun _ => []) fun p =>
  [.fork [.dy, .cell (.bool (bitAt a b p.1)), .fork [.nw, .nw] [.nw]] []], .br true, .nw, .br true]

theorem counts_run (a b : BitVec 64) : run countsCs Try.prog 7 [.agg [.w64 a, .w64 b]] [] (countsH a b) isTrue =
    ((Go.Sx.St.mk [Go.Sx.AV.any, Go.Sx.AV.ptr (0 : Nat) (0 : Nat) (0 : Nat) Bool.true, Go.Sx.AV.any, Go.Sx.AV.int Go.IntKind.i64 (0 : Int), Go.Sx.AV.any, Go.Sx.AV.any, Go.Sx.AV.any, Go.Sx.AV.slice ((0 : Nat) + (1 : Nat)) (0 : Nat) (List.length (Go.Proofs.Ytbbiehgdkfgngaa.L1.bitsOf a b)) Bool.false, Go.Sx.AV.int Go.IntKind.i64 (↑(List.length (Go.Proofs.Ytbbiehgdkfgngaa.L1.bitsOf a b)) : Int), Go.Sx.AV.int Go.IntKind.i64 (0 : Int), Go.Sx.AV.any, Go.Sx.AV.any, Go.Sx.AV.any, Go.Sx.AV.any, Go.Sx.AV.any, Go.Sx.AV.any, Go.Sx.AV.any, Go.Sx.AV.any, Go.Sx.AV.any, Go.Sx.AV.any, Go.Sx.AV.any, Go.Sx.AV.any, Go.Sx.AV.any, Go.Sx.AV.any, Go.Sx.AV.any, Go.Sx.AV.any, Go.Sx.AV.any, Go.Sx.AV.any, Go.Sx.AV.any, Go.Sx.AV.any, Go.Sx.AV.any, Go.Sx.AV.any] [Option.some (Go.Sx.Blk.mk Bool.true (24 : Nat) (2 : Nat) Bool.true [Go.Sx.AV.agg [Go.Sx.AV.w64 a, Go.Sx.AV.w64 b]]), Option.some (Go.Sx.Blk.mk Bool.true (4 : Go.TypeId) (1 : Nat) Bool.true (Go.Proofs.Ytbbiehgdkfgngaa.L1.bitsOf a b))] = Go.Proofs.Ytbbiehgdkfgngaa.L1.countsSt a b ((0 : Nat), (0 : Nat)) ∧ Go.Proofs.Ytbbiehgdkfgngaa.L1.countsI a b ((0 : Nat), (0 : Nat))) ∧ ∀ (p : Nat × Nat), Go.Proofs.Ytbbiehgdkfgngaa.L1.countsI a b p → (Decidable.decide ((↑(Prod.fst p) : Int) < (128 : Int)) = Bool.true → ((0 : Int) ≤ (↑p.1 : Int) ∧ (↑p.1 : Int) < (↑(128 : Nat) : Int)) ∧ Go.Sx.Blk.read Go.Proofs.Try.prog (Go.Sx.Blk.mk Bool.true (4 : Go.TypeId) (1 : Nat) Bool.true (Go.Proofs.Ytbbiehgdkfgngaa.L1.bitsOf a b)) (4 : Nat) ((0 : Nat) + Int.toNat (↑p.1 : Int)) (0 : Nat) = Option.some (Go.Sx.AV.bool (Go.Sx.M.bitAt a b p.1)) ∧ (Go.Sx.M.bitAt a b (Prod.fst p) = Bool.true → Go.Sx.inRange Go.IntKind.i64 ((↑p.2 : Int) + (1 : Int)) ∧ Go.Sx.inRange Go.IntKind.i64 ((↑p.1 : Int) + (1 : Int)) ∧ ∃ (p' : Nat × Nat), Go.Sx.St.mk [Go.Sx.AV.any, Go.Sx.AV.ptr (0 : Nat) (0 : Nat) (0 : Nat) Bool.true, Go.Sx.AV.any, Go.Sx.AV.int Go.IntKind.i64 ((↑p.2 : Int) + (1 : Int)), Go.Sx.AV.any, Go.Sx.AV.any, Go.Sx.AV.any, Go.Sx.AV.slice ((0 : Nat) + (1 : Nat)) (0 : Nat) (128 : Nat) Bool.false, Go.Sx.AV.int Go.IntKind.i64 (128 : Int), Go.Sx.AV.int Go.IntKind.i64 ((↑p.1 : Int) + (1 : Int)), Go.Sx.AV.any, Go.Sx.AV.any, Go.Sx.AV.any, Go.Sx.AV.any, Go.Sx.AV.any, Go.Sx.AV.any, Go.Sx.AV.any, Go.Sx.AV.any, Go.Sx.AV.any, Go.Sx.AV.any, Go.Sx.AV.any, Go.Sx.AV.any, Go.Sx.AV.any, Go.Sx.AV.any, Go.Sx.AV.any, Go.Sx.AV.any, Go.Sx.AV.any, Go.Sx.AV.any, Go.Sx.AV.any, Go.Sx.AV.any, Go.Sx.AV.any, Go.Sx.AV.any] [Option.some (Go.Sx.Blk.mk Bool.true (24 : Go.TypeId) (2 : Nat) Bool.true [Go.Sx.AV.agg [Go.Sx.AV.w64 a, Go.Sx.AV.w64 b]]), Option.some (Go.Sx.Blk.mk Bool.true (4 : Go.TypeId) (1 : Nat) Bool.true (Go.Proofs.Ytbbiehgdkfgngaa.L1.bitsOf a b))] = Go.Proofs.Ytbbiehgdkfgngaa.L1.countsSt a b p' ∧ Go.Proofs.Ytbbiehgdkfgngaa.L1.countsI a b p' ∧ (200 : Nat) - p'.1 < (200 : Nat) - p.1) ∧ (Go.Sx.M.bitAt a b (Prod.fst p) = Bool.false → Go.Sx.inRange Go.IntKind.i64 ((↑p.1 : Int) + (1 : Int)) ∧ ∃ (p' : Nat × Nat), Go.Sx.St.mk [Go.Sx.AV.any, Go.Sx.AV.ptr (0 : Nat) (0 : Nat) (0 : Nat) Bool.true, Go.Sx.AV.any, Go.Sx.AV.int Go.IntKind.i64 (↑p.2 : Int), Go.Sx.AV.any, Go.Sx.AV.any, Go.Sx.AV.any, Go.Sx.AV.slice ((0 : Nat) + (1 : Nat)) (0 : Nat) (128 : Nat) Bool.false, Go.Sx.AV.int Go.IntKind.i64 (128 : Int), Go.Sx.AV.int Go.IntKind.i64 ((↑p.1 : Int) + (1 : Int)), Go.Sx.AV.any, Go.Sx.AV.any, Go.Sx.AV.any, Go.Sx.AV.any, Go.Sx.AV.any, Go.Sx.AV.any, Go.Sx.AV.any, Go.Sx.AV.any, Go.Sx.AV.any, Go.Sx.AV.any, Go.Sx.AV.any, Go.Sx.AV.any, Go.Sx.AV.any, Go.Sx.AV.any, Go.Sx.AV.any, Go.Sx.AV.any, Go.Sx.AV.any, Go.Sx.AV.any, Go.Sx.AV.any, Go.Sx.AV.any, Go.Sx.AV.any, Go.Sx.AV.any] [Option.some (Go.Sx.Blk.mk Bool.true (24 : Go.TypeId) (2 : Nat) Bool.true [Go.Sx.AV.agg [Go.Sx.AV.w64 a, Go.Sx.AV.w64 b]]), Option.some (Go.Sx.Blk.mk Bool.true (4 : Go.TypeId) (1 : Nat) Bool.true (Go.Proofs.Ytbbiehgdkfgngaa.L1.bitsOf a b))] = Go.Proofs.Ytbbiehgdkfgngaa.L1.countsSt a b p' ∧ Go.Proofs.Ytbbiehgdkfgngaa.L1.countsI a b p' ∧ (200 : Nat) - p'.1 < (200 : Nat) - p.1)) ∧ (Decidable.decide ((↑(Prod.fst p) : Int) < (128 : Int)) = Bool.false → ((↑(Go.Sx.M.cnt (64 : Nat) (BitVec.toNat a)) : Int) + (↑(Go.Sx.M.cnt (64 : Nat) (BitVec.toNat b)) : Int) == (↑p.2 : Int)) = Bool.true ∧ Go.Sx.inRange Go.IntKind.i64 ((128 : Int) - (↑p.2 : Int)) ∧ ((↑(Go.Sx.M.cnt (64 : Nat) (BitVec.toNat (~~~a))) : Int) + (↑(Go.Sx.M.cnt (64 : Nat) (BitVec.toNat (~~~b))) : Int) == (128 : Int) - (↑p.2 : Int)) = Bool.true ∧ True ∧ Bool.true = Bool.true)) := by kernel_rfl

theorem countsCs_ok : ∀ e ∈ countsCs, SpecOK Try.prog e.1 e.2 := by
  intro e he
  simp only [countsCs, List.mem_cons, List.not_mem_nil, or_false] at he
  rcases he with rfl | rfl | rfl
  · exact awake
  · exact ones_ok
  · exact bits_ok

theorem counts_law (a b : BitVec 64) : ∃ hs, run countsCs Try.prog 7 [.agg [.w64 a, .w64 b]] [] hs isTrue := by
  refine ⟨countsH a b, ?_⟩
  rw [counts_run]
  refine ⟨⟨rfl, by decide, rfl⟩, ?_⟩
  rintro ⟨k, n⟩ ⟨h1, h2⟩
  simp only at h1 h2
  have hle : ∀ f m, cf f m ≤ m := by
    intro f m
    induction m with
    | zero => exact Nat.le_refl _
    | succ m ih => simp only [cf]; split <;> omega
  have hn : n ≤ 128 := by have := hle (bitAt a b) k; omega
  refine ⟨fun hlt => ?_, fun hge => ?_⟩
  · have hk : k < 128 := by simp only [decide_eq_true_eq] at hlt; omega
    refine ⟨by simp only; omega, read_bits (by simp only; omega) (by simp only; omega) rfl, fun hb => ?_, fun hb => ?_⟩
    · exact ⟨inR (by simp only; omega) (by simp only; omega), inR (by simp only; omega) (by simp only; omega), (k + 1, n + 1), rfl, ⟨by simp only; omega, by simp only at hb ⊢; simp only [cf, hb, h2]; rfl⟩, by simp only; omega⟩
    · exact ⟨inR (by simp only; omega) (by simp only; omega), (k + 1, n), rfl, ⟨by simp only; omega, by simp only at hb ⊢; simp only [cf, hb, h2]; rfl⟩, by simp only; omega⟩
  · have hk : k = 128 := by simp only [decide_eq_false_iff_not] at hge; omega
    subst hk
    have e1 := cnt_words a b
    have e2 := cnt_not a b
    refine ⟨by simp only [beq_iff_eq]; omega, inR (by simp only; omega) (by simp only; omega), by simp only [beq_iff_eq]; omega, trivial, rfl⟩

theorem counts_any : ∃ C : Sx.Call, COK Try.prog false C ∧ ∀ a b : BitVec 64, ∃ hs, C 7 [.agg [.w64 a, .w64 b]] [] hs isTrue :=
  ⟨run countsCs Try.prog, run_ok (l := countsCs) countsCs_ok mixed noNG, counts_law⟩

theorem counts_holds : Rows.AddrCountsSaid :=
  addrCounts_of fun a0 a1 w => by
    obtain ⟨C, hC, h⟩ := counts_any
    obtain ⟨hs, h⟩ := h a0 a1
    exact addrCounts_call hC a0 a1 h w

#print axioms counts_holds
end Go.Proofs.Ytbbiehgdkfgngaa.L1
