/-
  Texts in one: L2A R L1Ones.
-/
import Derived.Test.YthfgocpejlhanaaL1a
import Derived.Test.YthfgocpejlhanaaSxS
import Derived.Test.YthfgocpejlhanaaMa

section
/-
  Layer 2: contracts of the program's and the document's calls on prefixes.
-/
namespace Go.Proofs.Ythfgocpejlhanaa.L1
open Go.Sx Go.Sx.M

def makeF : List Arg → (Res → Prop) → Prop
  | [.v (.agg [.w64 a, .w64 b]), .v (.int .i64 n)], R => R (.v (.agg [.w64 (a &&& mkW n), .w64 (b &&& mkW (n - 64)), .int .i64 (clamp n)]))
  | _, _ => False

noncomputable def pmakeCs : List (FuncId × Sx.Spec) := [(39, genSpec [none, none] cutF)]

theorem pmake_run (a b : BitVec 64) (n : Int) (r : AV) : run pmakeCs Try.prog 26 [.agg [.w64 a, .w64 b], .int .i64 n] [] [] (yields (.v r)) =
    (Go.Sx.AV.agg (List.map Go.Sx.canon1 (List.take (3 : Nat) (List.drop (0 : Nat) [Go.Sx.AV.w64 (a &&& Go.Proofs.Ythfgocpejlhanaa.L1.mkW n), Go.Sx.AV.w64 (b &&& Go.Proofs.Ythfgocpejlhanaa.L1.mkW (n - (64 : Int))), Go.Sx.AV.int Go.IntKind.i64 (if (128 : Int) < if (0 : Int) > n then (0 : Int) else n then (128 : Int) else if (0 : Int) > n then (0 : Int) else n)]))) = r) := by kernel_rfl

theorem pmakeCs_ok : ∀ e ∈ pmakeCs, SpecOK Try.prog e.1 e.2 := by
  intro e he
  simp only [pmakeCs, List.mem_cons, List.not_mem_nil, or_false] at he
  rcases he with rfl
  exact cut_ok

theorem pmake_ok : SpecOK Try.prog 26 (genSpec [none, none] makeF) := by
  refine genSpec_ok (run_ok (l := pmakeCs) pmakeCs_ok mixed noNG) fun l R hF => ?_
  unfold makeF at hF
  split at hF
  · rename_i a b n
    refine ⟨_, hF, rfl, [], ?_⟩
    show run pmakeCs Try.prog _ [.agg [.w64 a, .w64 b], .int .i64 n] [] _ _
    rw [pmake_run, clamp_eq]
    rfl
  · exact hF.elim

end Go.Proofs.Ythfgocpejlhanaa.L1
end

section
/-
  Rows of elements of one kind: reading them; what loops over them keep.
-/
namespace Go.Proofs.Ythfgocpejlhanaa.L1
open Go.Sx Go.Sx.M

/-- What is in a cell. -/
def cW : AV → BitVec 64
  | .w64 x => x
  | _ => 0#64
def cI : AV → Int
  | .int _ n => n
  | _ => 0

theorem whole_row {T : Type} (de : T → AV) (l : List T) : List.take (l.map de).length (List.drop 0 (l.map de)) = l.map de := by rw [List.drop_zero, List.take_length]

theorem read_rows {T : Type} [Inhabited T] {de : T → AV} {l : List T} {b : Bool} {ty : TypeId} {esz : Nat} {t : TypeId} {o : Nat} {k : Int} {y : AV} (h0 : 0 ≤ k) (h1 : k < ((l.map de).length : Int)) (hp : partOf Try.prog t (de (at' l k.toNat)).cells o = some y) :
    (Blk.mk b ty esz true (l.map de)).read Try.prog t (0 + k.toNat) o = some y := by
  rw [List.length_map] at h1
  unfold Blk.read
  rw [Nat.zero_add, List.getElem?_map, at_get (show k.toNat < l.length by omega)]
  exact hp

theorem up {P : Nat → Prop} {k : Nat} (h : ∀ i, i < k → P i) (hk : P k) : ∀ i, i < k + 1 → P i := fun i hi => by
  rcases Nat.lt_or_eq_of_le (Nat.le_of_lt_succ hi) with h' | rfl
  · exact h i h'
  · exact hk

theorem notT {b : Bool} {Φ : Prop} (h : b = true ↔ Φ) (hn : ¬ Φ) : b = false := by
  cases b with
  | false => rfl
  | true => exact absurd (h.1 rfl) hn

theorem zLe (n : Nat) : (0 + n ≤ n) = True := by simp

theorem notF {b : Bool} (h : (!b) = false) : b = true := by cases b <;> simp_all
theorem notTT {b : Bool} (h : (!b) = true) : b = false := by cases b <;> simp_all

end Go.Proofs.Ythfgocpejlhanaa.L1
end

section
/-
  Layer 1: contracts of OnesCount64 and of the program's Ones.
-/
namespace Go.Proofs.Ythfgocpejlhanaa.L1
open Go.Sx Go.Sx.M

end Go.Proofs.Ythfgocpejlhanaa.L1
end

