/-
  Texts in one: L11K L11E.
-/
import Derived.Test.YtnjbgbdcbejciaaL11b
import Derived.Test.YtnjbgbdcbejciaaL10W
import Derived.Test.YtnjbgbdcbejciaaL11a

section
/-
  Layer 11: all that the law of tables calls is as said.
-/
namespace Go.Proofs.Ytnjbgbdcbejciaa.L1
open Go.Sx Go.Sx.M

theorem l11dCs_ok : ∀ e ∈ l11dCs, SpecOK Try.prog e.1 e.2 := by
  intro e he
  simp only [l11dCs, List.mem_cons, List.not_mem_nil, or_false] at he
  rcases he with rfl | rfl | rfl | rfl
  · exact awake11_of awake11Cs_ok
  · exact told11_of told11Cs_ok
  · exact table9_ok
  · exact gbuild10_ok

end Go.Proofs.Ytnjbgbdcbejciaa.L1
end

section
/-
  Layer 11: the laws DiffDoes, DiffTells, DiffTables: their conditions, their proofs.
-/
namespace Go.Proofs.Ytnjbgbdcbejciaa.L1
open Go.Sx Go.Sx.M

theorem tables11_run (l m : List Ro) (k : Int) (a b : BitVec 64) : run l11dCs Try.prog 9 [.vsl 0 0 (l.map roE).length, .vsl 1 0 (m.map roE).length, .int .i64 k, .agg [.w64 a, .w64 b]] [some ⟨false, 73, 4, true, l.map roE⟩, some ⟨false, 73, 4, true, m.map roE⟩] [.fork [] [.fork [] [.fork [] [.fork [] [.nm ((bdE l k).map enE), .nm ((bdE m k).map enE), .br true]]]]] isTrue =
    ((0 : Nat) + List.length (List.map roE l) ≤ List.length (List.map roE l) ∧ List.take (List.length (List.map roE l)) (List.drop (0 : Nat) (List.map roE l)) = List.map roE (deR (List.take (List.length (List.map roE l)) (List.drop (0 : Nat) (List.map roE l)))) ∧ List.length (deR (List.take (List.length (List.map roE l)) (List.drop (0 : Nat) (List.map roE l)))) ≤ (9223372036854775807 : Nat) ∧ ((!tb9 (deR (List.take (List.length (List.map roE l)) (List.drop (0 : Nat) (List.map roE l))))) = true → True ∧ true = true) ∧ ((!tb9 (deR (List.take (List.length (List.map roE l)) (List.drop (0 : Nat) (List.map roE l))))) = false → (0 : Nat) + List.length (List.map roE m) ≤ List.length (List.map roE m) ∧ List.take (List.length (List.map roE m)) (List.drop (0 : Nat) (List.map roE m)) = List.map roE (deR (List.take (List.length (List.map roE m)) (List.drop (0 : Nat) (List.map roE m)))) ∧ List.length (deR (List.take (List.length (List.map roE m)) (List.drop (0 : Nat) (List.map roE m)))) ≤ (9223372036854775807 : Nat) ∧ ((!tb9 (deR (List.take (List.length (List.map roE m)) (List.drop (0 : Nat) (List.map roE m))))) = true → True ∧ true = true) ∧ ((!tb9 (deR (List.take (List.length (List.map roE m)) (List.drop (0 : Nat) (List.map roE m))))) = false → (Decidable.decide ((↑(List.length (List.map roE l)) : Int) > (12 : Int)) = true → True ∧ true = true) ∧ (Decidable.decide ((↑(List.length (List.map roE l)) : Int) > (12 : Int)) = false → (Decidable.decide ((↑(List.length (List.map roE m)) : Int) > (12 : Int)) = true → True ∧ true = true) ∧ (Decidable.decide ((↑(List.length (List.map roE m)) : Int) > (12 : Int)) = false → (0 : Nat) + List.length (List.map roE l) ≤ List.length (List.map roE l) ∧ List.take (List.length (List.map roE l)) (List.drop (0 : Nat) (List.map roE l)) = List.map roE (deR (List.take (List.length (List.map roE l)) (List.drop (0 : Nat) (List.map roE l)))) ∧ (List.length (deR (List.take (List.length (List.map roE l)) (List.drop (0 : Nat) (List.map roE l)))) ≤ (1000000 : Nat) ∧ tbR (128 : Int) (deR (List.take (List.length (List.map roE l)) (List.drop (0 : Nat) (List.map roE l)))) = true) ∧ (List.map enE (bdE (deR (List.take (List.length (List.map roE l)) (List.drop (0 : Nat) (List.map roE l)))) k) = List.map enE (bdE l k) ∧ List.length (List.map enE (bdE (deR (List.take (List.length (List.map roE l)) (List.drop (0 : Nat) (List.map roE l)))) k)) = List.length (List.map enE (bdE l k))) ∧ (0 : Nat) + List.length (List.map roE m) ≤ List.length (List.map roE m) ∧ List.take (List.length (List.map roE m)) (List.drop (0 : Nat) (List.map roE m)) = List.map roE (deR (List.take (List.length (List.map roE m)) (List.drop (0 : Nat) (List.map roE m)))) ∧ (List.length (deR (List.take (List.length (List.map roE m)) (List.drop (0 : Nat) (List.map roE m)))) ≤ (1000000 : Nat) ∧ tbR (128 : Int) (deR (List.take (List.length (List.map roE m)) (List.drop (0 : Nat) (List.map roE m)))) = true) ∧ (List.map enE (bdE (deR (List.take (List.length (List.map roE m)) (List.drop (0 : Nat) (List.map roE m)))) k) = List.map enE (bdE m k) ∧ List.length (List.map enE (bdE (deR (List.take (List.length (List.map roE m)) (List.drop (0 : Nat) (List.map roE m)))) k)) = List.length (List.map enE (bdE m k))) ∧ (0 : Nat) + List.length (List.map enE (bdE l k)) ≤ List.length (List.map enE (bdE l k)) ∧ (0 : Nat) + List.length (List.map enE (bdE m k)) ≤ List.length (List.map enE (bdE m k)) ∧ List.take (List.length (List.map enE (bdE l k))) (List.drop (0 : Nat) (List.map enE (bdE l k))) = List.map enE (deE (List.take (List.length (List.map enE (bdE l k))) (List.drop (0 : Nat) (List.map enE (bdE l k))))) ∧ (List.length (deE (List.take (List.length (List.map enE (bdE l k))) (List.drop (0 : Nat) (List.map enE (bdE l k))))) ≤ (1000 : Nat) ∧ siE (deE (List.take (List.length (List.map enE (bdE l k))) (List.drop (0 : Nat) (List.map enE (bdE l k))))) = true) ∧ List.take (List.length (List.map enE (bdE m k))) (List.drop (0 : Nat) (List.map enE (bdE m k))) = List.map enE (deE (List.take (List.length (List.map enE (bdE m k))) (List.drop (0 : Nat) (List.map enE (bdE m k))))) ∧ (List.length (deE (List.take (List.length (List.map enE (bdE m k))) (List.drop (0 : Nat) (List.map enE (bdE m k))))) ≤ (1000 : Nat) ∧ siE (deE (List.take (List.length (List.map enE (bdE m k))) (List.drop (0 : Nat) (List.map enE (bdE m k))))) = true) ∧ true = true ∧ True ∧ true = true))))) := by kernel_rfl

theorem bd_simple {l : List Ro} (h : TB 128 l) (k : Int) : siE (bdE l k) = true := by
  by_cases hk : 0 ≤ k ∧ k ≤ 2
  · exact (bd_spec h hk.1 hk.2).1
  · rw [bd_not (by omega)]; rfl

theorem diffTables11_law (l m : List Ro) (k : Int) (a b : BitVec 64) (hL : l.length ≤ 9223372036854775807) (hM : m.length ≤ 9223372036854775807) : ∃ hs, run l11dCs Try.prog 9 [.vsl 0 0 (l.map roE).length, .vsl 1 0 (m.map roE).length, .int .i64 k, .agg [.w64 a, .w64 b]] [some ⟨false, 73, 4, true, l.map roE⟩, some ⟨false, 73, 4, true, m.map roE⟩] hs isTrue := by
  refine ⟨[.fork [] [.fork [] [.fork [] [.fork [] [.nm ((bdE l k).map enE), .nm ((bdE m k).map enE), .br true]]]]], ?_⟩
  rw [tables11_run]
  simp only [whole_row, deR_map, deE_map, zLe, true_and, and_true, eq_self, eq_true hL, eq_true hM, implies_true]
  intro hb hb' h h'
  obtain ⟨_, ht⟩ := tb9_is (notF hb)
  obtain ⟨_, ht'⟩ := tb9_is (notF hb')
  have hn : l.length ≤ 12 := by have := of_decide_eq_false h; rw [List.length_map] at this; omega
  have hn' : m.length ≤ 12 := by have := of_decide_eq_false h'; rw [List.length_map] at this; omega
  have h1 := bd_len l k
  have h2 := bd_len m k
  simp only [eq_true (tbR_iff.2 ht), eq_true (tbR_iff.2 ht'), bd_simple ht, bd_simple ht', eq_true (show (bdE l k).length ≤ 1000 by omega), eq_true (show (bdE m k).length ≤ 1000 by omega), eq_true (show l.length ≤ 1000000 by omega), eq_true (show m.length ≤ 1000000 by omega), and_true]

end Go.Proofs.Ytnjbgbdcbejciaa.L1
end

