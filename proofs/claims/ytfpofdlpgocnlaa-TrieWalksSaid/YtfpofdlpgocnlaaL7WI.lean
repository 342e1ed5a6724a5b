/-
  Layer 7: the iterator of a walk, where the law holds it.
-/
import Derived.Test.YtfpofdlpgocnlaaL7c
namespace Go.Proofs.Ytfpofdlpgocnlaa.L1
open Go.Sx Go.Sx.M

def fnBox8 : Option Blk := some ⟨false, 95, 1, false, [.func (.func 65) [] [.ptr 9 0 0 true]]⟩
def slBox8 (n : Nat) : Option Blk := some ⟨false, 30, 1, false, [.vsl 10 0 n]⟩
def va8Hp (l : List Ro) : Hp := [none, none, none, none, none, none, none, none, fnBox8, slBox8 l.length, some ⟨false, 41, 4, true, l.map roE⟩]
def va8St (y : Nat) (l : List Ro) (p : Nat) : St := ⟨[.func (.yield y) [] [], .ptr 9 0 0 true, .any, .any, .any, .vsl 10 0 l.length, .int .i64 l.length, .int .i64 p, .any, .any, .any, .any, .any, .any, .any, .any], va8Hp l⟩
def va8H (y : Nat) (l : List Ro) : List Hint := [.linv Nat 0 (va8St y l) (fun p => p ≤ l.length) (fun p => l.length - p) vaM0 vaM vaM (fun p => [.ix p]) fun p => [.fork [.dy, .cell (roE (at' l p)), .fork [.nw] []] []]]

theorem values8_run (y : Nat) (l : List Ro) : evFnIt (run [] Try.prog) Try.prog noIt 65 [.ptr 9 0 0 true] (va8Hp l) (l.map roE) y (va8H y l) =
    ((St.mk [AV.func (Fn.yield y) [] [], AV.ptr ((0 : Nat) + (1 : Nat) + (1 : Nat) + (1 : Nat) + (1 : Nat) + (1 : Nat) + (1 : Nat) + (1 : Nat) + (1 : Nat) + (1 : Nat)) (0 : Nat) (0 : Nat) true, AV.any, AV.any, AV.any, AV.vsl ((0 : Nat) + (1 : Nat) + (1 : Nat) + (1 : Nat) + (1 : Nat) + (1 : Nat) + (1 : Nat) + (1 : Nat) + (1 : Nat) + (1 : Nat) + (1 : Nat)) (0 : Nat) (List.length l), AV.int IntKind.i64 (↑(List.length l) : Int), AV.int IntKind.i64 (0 : Int), AV.any, AV.any, AV.any, AV.any, AV.any, AV.any, AV.any, AV.any] [none, none, none, none, none, none, none, none, some (Blk.mk false (nat_lit 95) (1 : Nat) false [AV.func (Fn.func (65 : FuncId)) [] [AV.ptr ((0 : Nat) + (1 : Nat) + (1 : Nat) + (1 : Nat) + (1 : Nat) + (1 : Nat) + (1 : Nat) + (1 : Nat) + (1 : Nat) + (1 : Nat)) (0 : Nat) (0 : Nat) true]]), some (Blk.mk false (nat_lit 30) (1 : Nat) false [AV.vsl ((0 : Nat) + (1 : Nat) + (1 : Nat) + (1 : Nat) + (1 : Nat) + (1 : Nat) + (1 : Nat) + (1 : Nat) + (1 : Nat) + (1 : Nat) + (1 : Nat)) (0 : Nat) (List.length l)]), some (Blk.mk false (nat_lit 41) (4 : Nat) true (List.map roE l))] = va8St y l (0 : Nat) ∧ Nat.le (0 : Nat) (List.length l) ∧ (0 : Nat) = (0 : Nat)) ∧ ∀ (p : Nat), Nat.le p (List.length l) → (Decidable.decide ((↑p : Int) < (↑(List.length l) : Int)) = true → ((0 : Int) ≤ (↑p : Int) ∧ (↑p : Int) < (↑(List.length l) : Int)) ∧ Blk.read Proofs.Try.prog (Blk.mk false (nat_lit 41) (4 : Nat) true (List.map roE l)) (41 : Nat) ((0 : Nat) + Int.toNat (↑p : Int)) (0 : Nat) = some (AV.agg [AV.w64 (Ro.p (at' l p)).1, AV.w64 (Ro.p (at' l p)).2, AV.int IntKind.i64 (Ro.p (at' l p)).3, AV.int IntKind.i64 (at' l p).2]) ∧ y = y ∧ true = true ∧ (List.map roE l)[p]? = some (AV.agg [AV.w64 (Ro.p (at' l p)).1, AV.w64 (Ro.p (at' l p)).2, AV.int IntKind.i64 (Ro.p (at' l p)).3, AV.int IntKind.i64 (at' l p).2]) ∧ (inRange IntKind.i64 ((↑p : Int) + (1 : Int)) ∧ ∃ (p' : Nat), St.mk [AV.func (Fn.yield y) [] [], AV.ptr ((0 : Nat) + (1 : Nat) + (1 : Nat) + (1 : Nat) + (1 : Nat) + (1 : Nat) + (1 : Nat) + (1 : Nat) + (1 : Nat) + (1 : Nat)) (0 : Nat) (0 : Nat) true, AV.any, AV.any, AV.any, AV.vsl ((0 : Nat) + (1 : Nat) + (1 : Nat) + (1 : Nat) + (1 : Nat) + (1 : Nat) + (1 : Nat) + (1 : Nat) + (1 : Nat) + (1 : Nat) + (1 : Nat)) (0 : Nat) (List.length l), AV.int IntKind.i64 (↑(List.length l) : Int), AV.int IntKind.i64 ((↑p : Int) + (1 : Int)), AV.any, AV.any, AV.any, AV.any, AV.any, AV.any, AV.any, AV.any] [none, none, none, none, none, none, none, none, some (Blk.mk false (nat_lit 95) (1 : Nat) false [AV.func (Fn.func (65 : FuncId)) [] [AV.ptr ((0 : Nat) + (1 : Nat) + (1 : Nat) + (1 : Nat) + (1 : Nat) + (1 : Nat) + (1 : Nat) + (1 : Nat) + (1 : Nat) + (1 : Nat)) (0 : Nat) (0 : Nat) true]]), some (Blk.mk false (nat_lit 30) (1 : Nat) false [AV.vsl ((0 : Nat) + (1 : Nat) + (1 : Nat) + (1 : Nat) + (1 : Nat) + (1 : Nat) + (1 : Nat) + (1 : Nat) + (1 : Nat) + (1 : Nat) + (1 : Nat)) (0 : Nat) (List.length l)]), some (Blk.mk false (nat_lit 41) (4 : Nat) true (List.map roE l))] = va8St y l p' ∧ Nat.le p' (List.length l) ∧ p' = p + (1 : Nat) ∧ List.length l - p' < List.length l - p) ∧ ((1 : Nat) = (0 : Nat) → p + (1 : Nat) = List.length (List.map roE l))) ∧ (Decidable.decide ((↑p : Int) < (↑(List.length l) : Int)) = false → (0 : Nat) = (0 : Nat) → p = List.length (List.map roE l))) := by kernel_rfl

theorem values8_it {l : List Ro} (hl : (l.length : Int) < 1000000) : ItOK Try.prog 65 [.ptr 9 0 0 true] (va8Hp l) (l.map roE) := by
  refine itOK_of (C := run [] Try.prog) (It := noIt) none_ok mixed noNG noGlob rfl noIt_ok (roE_pures l) (roE_vals l) fun y => ⟨va8H y l, ?_⟩
  rw [values8_run]
  refine ⟨⟨rfl, Nat.zero_le _, rfl⟩, fun p hp => ⟨fun h => ?_, fun h => ?_⟩⟩
  · have h : (p : Int) < (l.length : Int) := by simpa using h
    have h' : p < l.length := by omega
    refine ⟨⟨by omega, by omega⟩, read_rows (k := (p : Int)) (by omega) (by rw [List.length_map]; omega) (ro_whole _), rfl, rfl, roE_get h', ⟨inR (by omega) (by omega), p + 1, rfl, Nat.succ_le_of_lt h', rfl, by omega⟩, fun h => by cases h⟩
  · have h : ¬ (p : Int) < (l.length : Int) := by simpa using h
    have hp : p ≤ l.length := hp
    rw [List.length_map]
    intro _
    omega

theorem walk8_it_run (y : Nat) (l : List Ro) : evFnIt (run [] Try.prog) Try.prog (ItOK Try.prog) 49 [.ptr 8 0 0 true] (va8Hp l) (l.map roE) y [] =
    (y = y ∧ (0 : Nat) = (0 : Nat) ∧ ItOK Proofs.Try.prog (65 : FuncId) [AV.ptr (9 : Nat) (0 : Nat) (0 : Nat) true] [none, none, none, none, none, none, none, none, some (Blk.mk false (nat_lit 95) (1 : Nat) false [AV.func (Fn.func (65 : FuncId)) [] [AV.ptr (9 : Nat) (0 : Nat) (0 : Nat) true]]), some (Blk.mk false (nat_lit 30) (1 : Nat) false [AV.vsl (10 : Nat) (0 : Nat) (List.length l)]), some (Blk.mk false (nat_lit 41) (4 : Nat) true (List.map roE l))] (List.map roE l) ∧ ((2 : Nat) = (0 : Nat) → List.length (List.map roE l) = List.length (List.map roE l)) ∧ ∀ (j : Nat), j ≤ List.length (List.map roE l) → (1 : Nat) = (0 : Nat) → j = List.length (List.map roE l)) := by kernel_rfl

theorem walk8_it {l : List Ro} (hl : (l.length : Int) < 1000000) : ItOK Try.prog 49 [.ptr 8 0 0 true] (va8Hp l) (l.map roE) := by
  refine itOK_of (C := run [] Try.prog) (It := ItOK Try.prog) none_ok mixed noNG noGlob rfl (fun _ _ _ _ h => h) (roE_pures l) (roE_vals l) fun y => ⟨[], ?_⟩
  rw [walk8_it_run]
  exact ⟨rfl, rfl, values8_it hl, fun _ => rfl, fun _ _ h => (by cases h)⟩

theorem walk8_it' {l : List Ro} (hl : (l.length : Int) < 1000000) : ItOK Try.prog 49 [.ptr 8 0 0 true] [none, none, none, none, none, none, none, none, some ⟨true, 95, 1, false, [.func (.func 65) [] [.ptr 9 0 0 true]]⟩,
    some ⟨true, 30, 1, false, [.vsl 10 0 l.length]⟩, some ⟨true, 41, 4, true, l.map roE⟩] (l.map roE) := itOK_thaw rfl (walk8_it hl)

end Go.Proofs.Ytfpofdlpgocnlaa.L1
