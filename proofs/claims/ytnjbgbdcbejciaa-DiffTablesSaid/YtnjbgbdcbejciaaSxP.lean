/-
  The calculus (SxA): contracts that stand elsewhere (of a call, of the library's functions), as contracts of the calculus; texts.
-/
import Derived.Test.YtnjbgbdcbejciaaSxM
import Derived.Deep.Draws
import Derived.MapKept
namespace Go.Sx
open Go.RowKit

section
variable {P : Program}

theorem enters {f : FuncId} {fn : Func} {c : Code} (hf : P.funcs[f]? = some fn) (hg : noNG P = true) (hb : fn.body = some c) (args : Array Value) (w : World) : (callFunc f args).run P w = .ok (.enter f args) w := by
  have hname : ¬ fn.name = "runtime.NumGoroutine" := by
    have hmem : fn ∈ P.funcs.toList := List.mem_of_getElem? (i := f) (by simpa using hf)
    have := List.all_eq_true.1 hg fn hmem
    simpa [bne] using this
  simp [callFunc, hf, hname, hb, mark]

theorem AVRs.one_inv {ρ : List Loc} {x : AV} {vs : List Value} (h : AVRs ρ [x] vs) : ∃ v, vs = [v] ∧ AVR ρ x v := by
  cases h with | cons h0 h1 => cases h1; exact ⟨_, rfl, h0⟩

theorem AVRs.two_inv {ρ : List Loc} {x y : AV} {vs : List Value} (h : AVRs ρ [x, y] vs) : ∃ u v, vs = [u, v] ∧ AVR ρ x u ∧ AVR ρ y v := by
  cases h with | cons h0 h1 => cases h1 with | cons h1 h2 => cases h2; exact ⟨_, _, rfl, h0, h1⟩

theorem int_inv {ρ : List Loc} {k : IntKind} {n : Int} {v : Value} (h : AVR ρ (.int k n) v) : v = .int k n := by cases h; rfl
theorem val_inv {ρ : List Loc} {u v : Value} (h : AVR ρ (.val u) v) : v = u := by cases h; rfl
theorem w64_inv {ρ : List Loc} {x : BitVec 64} {v : Value} (h : AVR ρ (.w64 x) v) : v = .int .u64 (x.toNat : Int) := by cases h; rfl

end

namespace M

end M

open M

end Go.Sx
