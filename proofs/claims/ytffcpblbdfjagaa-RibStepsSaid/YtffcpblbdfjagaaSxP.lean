/-
  The calculus (SxA): contracts that stand elsewhere (of a call, of the library's functions), as contracts of the calculus; texts.
-/
import Derived.Test.YtffcpblbdfjagaaSxM
import Derived.Deep.Draws
import Derived.MapKept
namespace Go.Sx
open Go.RowKit

section
variable {P : Program}

/-- A call whose ending is known, by a contract that stands elsewhere: it hands back a plain value, and of what was there it touches nothing. -/
def callsC (P : Program) (f : FuncId) : Call := fun f' args h hs K => f' = f ∧ ∃ x, (∀ B ρ w vs, HpR B ρ h w → AVRs ρ args vs →
  Calls P f vs.toArray w fun e w' => ∃ u, e = .returned u ∧ AVR [] x u ∧ Bel w.heap.size w w') ∧ K x h hs

theorem enters {f : FuncId} {fn : Func} {c : Code} (hf : P.funcs[f]? = some fn) (hg : noNG P = true) (hb : fn.body = some c) (args : Array Value) (w : World) : (callFunc f args).run P w = .ok (.enter f args) w := by
  have hname : ¬ fn.name = "runtime.NumGoroutine" := by
    have hmem : fn ∈ P.funcs.toList := List.mem_of_getElem? (i := f) (by simpa using hf)
    have := List.all_eq_true.1 hg fn hmem
    simpa [bne] using this
  simp [callFunc, hf, hname, hb, mark]

theorem callsC_ok {f : FuncId} {fn : Func} (hf : P.funcs[f]? = some fn) (hg : noNG P = true) (hb : fn.body.isSome = true) : COK P false (callsC P f) := by
  rintro f' args h hs K ⟨rfl, x, hc, hk⟩ B ρ w vs hH hv
  obtain ⟨c, hc'⟩ := Option.isSome_iff_exists.1 hb
  refine .inl ⟨enters hf hg hc' _ _, (hc B ρ w vs hH hv).mono fun e w' he => ?_⟩
  obtain ⟨u, rfl, hr, hb⟩ := he
  exact ⟨[], x, h, hs, hk, by rw [List.append_nil]; exact hr.of_nil, by rw [List.append_nil]; exact hH.below hb, by simpa using hb.mono hH.base, by simp⟩

theorem glob_cells {w : World} {B : Nat} (h : GlobOK B w) {g : Nat} {cs : Array Value} (hm : (g, cs) ∈ globs) : ∃ ty fr, w.heap[g]? = some (.cells cs ty fr) := (h _ hm).2

theorem glob_var {w : World} {B : Nat} (h : GlobOK B w) {g : Nat} {cs : Array Value} (hm : (g, cs) ∈ globs) {name : String} (hg : P.globalNamed name = some g) : w.var? P name = some cs := by
  obtain ⟨ty, fr, e⟩ := glob_cells h hm
  simp [World.var?, hg, e]

theorem below_grow (w : World) (k : Nat) (os : Array Obj) : Bel w.heap.size w { (w.drewN k) with heap := (w.drewN k).heap ++ os } :=
  ⟨⟨rfl, rfl, rfl, by simp [World.drewN], fun j hj => by simp [World.drewN, Array.getElem?_append_left hj]⟩, Nat.le_add_right _ _⟩

theorem AVRs.one_inv {ρ : List Loc} {x : AV} {vs : List Value} (h : AVRs ρ [x] vs) : ∃ v, vs = [v] ∧ AVR ρ x v := by
  cases h with | cons h0 h1 => cases h1; exact ⟨_, rfl, h0⟩

theorem AVRs.two_inv {ρ : List Loc} {x y : AV} {vs : List Value} (h : AVRs ρ [x, y] vs) : ∃ u v, vs = [u, v] ∧ AVR ρ x u ∧ AVR ρ y v := by
  cases h with | cons h0 h1 => cases h1 with | cons h1 h2 => cases h2; exact ⟨_, _, rfl, h0, h1⟩

theorem int_inv {ρ : List Loc} {k : IntKind} {n : Int} {v : Value} (h : AVR ρ (.int k n) v) : v = .int k n := by cases h; rfl
theorem val_inv {ρ : List Loc} {u v : Value} (h : AVR ρ (.val u) v) : v = u := by cases h; rfl
theorem w64_inv {ρ : List Loc} {x : BitVec 64} {v : Value} (h : AVR ρ (.w64 x) v) : v = .int .u64 (x.toNat : Int) := by cases h; rfl

end

namespace M

/-- A text, by its bytes. -/
def tx (l : List UInt8) : ByteArray := ⟨l.toArray⟩

end M

open M

theorem tx_data (l : List UInt8) : (tx l).data.toList = l := by simp [tx]
theorem tx_of (s : ByteArray) : tx s.data.toList = s := by simp [tx]
theorem tx_size (l : List UInt8) : (tx l).size = l.length := by simp [tx, ByteArray.size]
theorem tx_append (l m : List UInt8) : tx l ++ tx m = tx (l ++ m) := by
  apply ByteArray.ext; simp [tx]
theorem tx_inj {l m : List UInt8} (h : tx l = tx m) : l = m := by
  have := congrArg (fun s : ByteArray => s.data.toList) h
  simpa [tx_data] using this
theorem tx_beq (l m : List UInt8) : (tx l == tx m) = decide (l = m) := by
  rw [Bool.eq_iff_iff, MapKept.bytes_beq, decide_eq_true_eq]
  exact ⟨tx_inj, fun h => by rw [h]⟩
theorem beq_tx (s t : ByteArray) : (s == t) = decide (s.data.toList = t.data.toList) := by rw [← tx_of s, ← tx_of t, tx_beq, tx_data, tx_data]
theorem tx_get (l : List UInt8) (n : Nat) : (tx l)[n]? = l[n]? := by
  by_cases h : n < l.length
  · rw [List.getElem?_eq_getElem h]
    rw [getElem?_pos (tx l) n (by rw [tx_size]; exact h)]
    simp [tx, ByteArray.getElem_eq_getElem_data]
  · rw [List.getElem?_eq_none (by omega), getElem?_neg (tx l) n (by rw [tx_size]; exact h)]
theorem tx_extract (l : List UInt8) (a b : Nat) : (tx l).extract a b = tx ((l.take b).drop a) := by
  apply ByteArray.ext
  simp [tx, ByteArray.data_extract, List.drop_take]

end Go.Sx
