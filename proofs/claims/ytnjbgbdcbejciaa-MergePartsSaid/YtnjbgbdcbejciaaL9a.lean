/-
  Texts in one: L9M L9A L9D.
-/
import Derived.Test.YtnjbgbdcbejciaaL6a

section
/-
  Layer 9: which routes of a table are kept: plain mathematics.
-/
namespace Go.Sx.M
open Go.Proofs.Ytnjbgbdcbejciaa.L1

/-- Says a route something else than the one that covers it? -/
def saysR (c : Option Ro) (x : Ro) : Bool := match c with | none => true | some c => !decide (c.act = x.act)

def kpS (k : List Ro) (x : Ro) : List Ro := if saysR (cvrR k x.p) x then k ++ [x] else k

/-- Those that are kept. -/
def kpR (l : List Ro) : List Ro := l.foldl kpS []

theorem kpR_snoc (l : List Ro) (x : Ro) : kpR (l ++ [x]) = kpS (kpR l) x := by
  unfold kpR
  rw [List.foldl_append]; rfl

theorem kp_fold : ∀ (l k : List Ro), ∃ r, l.foldl kpS k = k ++ r ∧ r.Sublist l
  | [], k => ⟨[], by simp, .slnil⟩
  | x :: l, k => by
    obtain ⟨r, h1, h2⟩ := kp_fold l (kpS k x)
    rw [List.foldl_cons, h1]
    unfold kpS
    split
    · exact ⟨x :: r, by simp, h2.cons_cons _⟩
    · exact ⟨r, rfl, h2.cons _⟩

theorem kpR_sub (l : List Ro) : (kpR l).Sublist l := by
  obtain ⟨r, h1, h2⟩ := kp_fold l []
  unfold kpR
  rw [h1]
  simpa using h2

theorem kpR_mem {l : List Ro} {x : Ro} (h : x ∈ kpR l) : x ∈ l := (kpR_sub l).subset h
theorem kpR_tb {w : Int} {l : List Ro} (h : TB w l) : TB w (kpR l) := h.sub (kpR_sub l)

end Go.Sx.M
end

section
/-
  Layer 9: the contract of the document's Keep; of the law's Table.
-/
namespace Go.Proofs.Ytnjbgbdcbejciaa.L1
open Go.Sx Go.Sx.M

end Go.Proofs.Ytnjbgbdcbejciaa.L1
end

section
/-
  Layer 9: what the contracts of the program's calls say; the law's Table; what the document fixes of three routes.
-/
namespace Go.Proofs.Ytnjbgbdcbejciaa.L1
open Go.Sx Go.Sx.M

def gkeep9F : List Arg → (Res → Prop) → Prop
  | [.row r_l], R => r_l = (deR r_l).map roE ∧ tbR 128 (deR r_l) = true ∧ R (.vrow 73 4 ((kpR (deR r_l)).map roE))
  | _, _ => False

/-- The law's tables. -/
def tb9 (l : List Ro) : Bool := decide (l.length ≤ 24) && tbR 128 l

def table9F : List Arg → (Res → Prop) → Prop
  | [.row r_l], R => r_l = (deR r_l).map roE ∧ (deR r_l).length ≤ 9223372036854775807 ∧ R (.v (.bool (tb9 (deR r_l))))
  | _, _ => False

noncomputable def table9Cs : List (FuncId × Sx.Spec) := [(14, genSpec [pRo] of6F),
  (36, genSpec [none, pRefR] rrtableF)]

theorem table9_run (l : List Ro) (r : AV) : run table9Cs Try.prog 11 [.vsl 0 0 (l.map roE).length] [some ⟨false, (pRo.getD (0, 0)).1, (pRo.getD (0, 0)).2, true, (l.map roE)⟩] [.fork [] []] (yields (.v r)) =
    ((Decidable.decide ((↑(List.length (List.map roE l)) : Int) ≤ (24 : Int)) = true → (0 : Nat) + List.length (List.map roE l) ≤ List.length (List.map roE l) ∧ List.take (List.length (List.map roE l)) (List.drop 0 (List.map roE l)) = List.map roE (deR (List.take (List.length (List.map roE l)) (List.drop 0 (List.map roE l)))) ∧ List.length (deR (List.take (List.length (List.map roE l)) (List.drop 0 (List.map roE l)))) ≤ (1000000 : Nat) ∧ (0 : Nat) + List.length (List.map roE (deR (List.take (List.length (List.map roE l)) (List.drop 0 (List.map roE l))))) ≤ List.length (List.map roE (deR (List.take (List.length (List.map roE l)) (List.drop 0 (List.map roE l))))) ∧ List.take (List.length (List.map roE (deR (List.take (List.length (List.map roE l)) (List.drop 0 (List.map roE l)))))) (List.drop 0 (List.map roE (deR (List.take (List.length (List.map roE l)) (List.drop 0 (List.map roE l)))))) = List.map roE (deR (List.take (List.length (List.map roE (deR (List.take (List.length (List.map roE l)) (List.drop 0 (List.map roE l)))))) (List.drop 0 (List.map roE (deR (List.take (List.length (List.map roE l)) (List.drop 0 (List.map roE l)))))))) ∧ List.length (deR (List.take (List.length (List.map roE (deR (List.take (List.length (List.map roE l)) (List.drop 0 (List.map roE l)))))) (List.drop 0 (List.map roE (deR (List.take (List.length (List.map roE l)) (List.drop 0 (List.map roE l)))))))) ≤ (9223372036854775807 : Nat) ∧ AV.bool (tbR 128 (deR (List.take (List.length (List.map roE (deR (List.take (List.length (List.map roE l)) (List.drop 0 (List.map roE l)))))) (List.drop 0 (List.map roE (deR (List.take (List.length (List.map roE l)) (List.drop 0 (List.map roE l))))))))) = r) ∧ (Decidable.decide ((↑(List.length (List.map roE l)) : Int) ≤ (24 : Int)) = false → AV.bool false = r)) := by kernel_rfl

theorem table9Cs_ok : ∀ e ∈ table9Cs, SpecOK Try.prog e.1 e.2 := by
  intro e he
  simp only [table9Cs, List.mem_cons, List.not_mem_nil, or_false] at he
  rcases he with rfl | rfl
  · exact of6_ok
  · exact rrtable_ok

theorem table9_ok : SpecOK Try.prog 11 (genSpec [pRo] table9F) := by
  refine genSpec_ok (run_ok (l := table9Cs) table9Cs_ok mixed noNG) fun l R hF => ?_
  unfold table9F at hF
  split at hF
  · rename_i r_l
    obtain ⟨hr_l, hl, hF⟩ := hF
    generalize deR r_l = l at hr_l hl hF
    subst hr_l
    refine ⟨_, hF, rfl, [.fork [] []], ?_⟩
    show run table9Cs Try.prog _ [.vsl 0 0 (l.map roE).length] [some ⟨false, (pRo.getD (0, 0)).1, (pRo.getD (0, 0)).2, true, (l.map roE)⟩] _ _
    rw [table9_run]
    refine ⟨fun h => ?_, fun h => ?_⟩
    · have hn : l.length ≤ 24 := by have := of_decide_eq_true h; rw [List.length_map] at this; omega
      simp only [List.length_map, take_all (rfl : l.length = l.length), deR_map, zLe, true_and, eq_true (show l.length ≤ 1000000 by omega), eq_true hl]
      unfold tb9
      rw [decide_eq_true hn]; rfl
    · have hn : ¬ l.length ≤ 24 := by have := of_decide_eq_false h; rw [List.length_map] at this; omega
      unfold tb9
      rw [decide_eq_false hn]; rfl
  · exact hF.elim


end Go.Proofs.Ytnjbgbdcbejciaa.L1
end

