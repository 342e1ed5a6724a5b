/-
  Layer 11: the laws DiffEnds, DiffBack: their conditions, their proofs.
-/
import Derived.Test.YtnjbgbdcbejciaaL11a
namespace Go.Proofs.Ytnjbgbdcbejciaa.L1
open Go.Sx Go.Sx.M

/-- A row behind the first p steps. -/
def lpE (l : List En) (s : List Sp) (p : Nat) : List En := (s.take p).foldl doE l

theorem lpE_next {l : List En} {s : List Sp} {p : Nat} (hp : p < s.length) : lpE l s (p + 1) = doE (lpE l s p) (at' s p) := by
  unfold lpE
  rw [List.take_add_one, at_get hp, List.foldl_append]
  rfl

theorem lpE_all (l : List En) (s : List Sp) : lpE l s s.length = s.foldl doE l := by unfold lpE; rw [List.take_length]
theorem lpE_len (l : List En) (s : List Sp) (p : Nat) : (lpE l s p).length ≤ l.length + s.length := by
  have := dos_length l (s.take p)
  rw [List.length_take] at this
  unfold lpE
  omega

end Go.Proofs.Ytnjbgbdcbejciaa.L1
