/-
  Layer 5: contracts of the library's Clone and SortFunc of entries, and of the program's Sort.
-/
import Derived.Test.YtnjbgbdcbejciaaL5a
import Derived.Test.YtnjbgbdcbejciaaSxQ
import Derived.Test.YtnjbgbdcbejciaaShelf
namespace Go.Proofs.Ytnjbgbdcbejciaa.L1
open Go.Sx Go.Sx.M

/-- An entry's cells, as values. -/
def encVE (x : En) : List Value := [.int .u64 (x.v.toNat : Int), .int .u64 (x.w.toNat : Int), .int .u64 (x.m.toNat : Int), .int .u64 (x.n.toNat : Int), .int .i64 x.len, .int .i64 x.act]

theorem enE_ok : EncOK enE encVE 6 where
  len _ := rfl
  agg _ := rfl
  cells _ := rfl
  sound _ := rfl
  plain _ := rfl
  rel _ := .cons (.w64 _) (.cons (.w64 _) (.cons (.w64 _) (.cons (.w64 _) (.cons (.int _ _) (.cons (.int _ _) .nil)))))
  det x o c v hc hr := by
    have hc : [AV.w64 x.v, .w64 x.w, .w64 x.m, .w64 x.n, .int .i64 x.len, .int .i64 x.act][o]? = some c := hc
    rcases o with _ | _ | _ | _ | _ | _ | o <;> simp at hc
    · subst hc; rw [w64_inv hr]; rfl
    · subst hc; rw [w64_inv hr]; rfl
    · subst hc; rw [w64_inv hr]; rfl
    · subst hc; rw [w64_inv hr]; rfl
    · subst hc; rw [int_inv hr]; rfl
    · subst hc; rw [int_inv hr]; rfl
  one x v hv := by
    simp only [encVE, List.mem_cons, List.not_mem_nil, or_false] at hv
    rcases hv with rfl | rfl | rfl | rfl | rfl | rfl <;> rfl

theorem ltE (x y : En) : Go.Proofs.ltOf cpE x y = decide (cpE x y < 0) := rfl

theorem swoE : Go.Sort.SWO (Go.Proofs.ltOf cpE) where
  irrefl x := by rw [ltE, cpE_zero.2 rfl]; rfl
  trans x y z h1 h2 := by
    rw [ltE, decide_eq_true_eq] at *
    have h3 := cpE_trans (x := x) (y := y) (z := z) (by omega) (by omega)
    rcases Int.lt_or_eq_of_le h3 with h | h
    · exact h
    · have e := cpE_zero.1 h
      subst e
      have := cpE_turn x y
      omega
  ntrans x y z h1 h2 := by
    rw [ltE, decide_eq_false_iff_not] at *
    have t1 := cpE_turn x y
    have t2 := cpE_turn y z
    have t3 := cpE_turn x z
    have := cpE_trans (x := z) (y := y) (z := x) (by omega) (by omega)
    omega

theorem antiE (x y : En) (h1 : Go.Proofs.ltOf cpE x y = false) (h2 : Go.Proofs.ltOf cpE y x = false) : x = y := by
  rw [ltE, decide_eq_false_iff_not] at *
  have t := cpE_turn x y
  exact cpE_zero.1 (by omega)

theorem srE_merge (l : List En) : srE l = l.mergeSort fun x y => !(Go.Proofs.ltOf cpE) y x := by
  have hle : ∀ x y : En, (!(Go.Proofs.ltOf cpE) y x) = true ↔ cpE x y ≤ 0 := fun x y => by
    rw [ltE, Bool.not_eq_true', decide_eq_false_iff_not]
    have t := cpE_turn x y
    omega
  refine (srE_uniq ?_ (List.mergeSort_perm _ _)).symm
  have hp := List.pairwise_mergeSort (le := fun x y => !(Go.Proofs.ltOf cpE) y x) (fun a b c h1 h2 => (hle a c).2 (cpE_trans ((hle a b).1 h1) ((hle b c).1 h2))) (fun a b => by
    rw [Bool.or_eq_true, hle, hle]; exact cpE_total a b) l
  exact hp.imp fun h => (hle _ _).1 h

noncomputable def esortfSpec : Sx.Spec := sortSpec 6 67 enE deE srE

theorem esortf_ok : SpecOK Try.prog 66 esortfSpec :=
  sortSpec_ok Try.laysSlF06_f66 (by decide) Try.isAgg42 Try.sizeOf42 enE_ok cpE swoE antiE srE_merge ecompare_ok (fun _ _ => rfl) noNG Try.func67 (by kernel_rfl) Try.func66 (by kernel_rfl)

def ecloneF : List Arg → (Res → Prop) → Prop
  | [.row r_l], R => r_l = (deE r_l).map enE ∧ (deE r_l).length ≤ 1000000 ∧ R (.vrow 42 6 ((deE r_l).map enE))
  | _, _ => False

theorem eclone_run (l : List En) (F : List En → List AV) (es : List AV) : run [] Try.prog 61 [.vsl 0 0 (l.map enE).length] [some ⟨false, (pEn.getD (0, 0)).1, (pEn.getD (0, 0)).2, true, (l.map enE)⟩] [.fork [] [.rows (F l)]] (yields (.vrow 42 6 es)) =
    ((List.length (List.map enE l) = (0 : Nat) → es = []) ∧ (((0 : Nat) + List.length (List.map enE l)) * (48 : Nat) ≤ (140737488355328 : Nat) ∧ (0 : Nat) + List.length (List.map enE l) ≤ (9223372036854775807 : Nat) ∧ (0 : Nat) + List.length (List.map enE l) ≤ List.length (List.map enE l) ∧ (0 : Nat) ≤ List.length ([] : List AV)) ∧ [] ++ List.take (List.length (List.map enE l)) (List.drop (0 : Nat) (List.map enE l)) = F l ∧ (0 : Nat) + List.length (List.map enE l) = List.length es ∧ some (Blk.mk true (42 : Nat) (6 : Nat) true (F l)) = some (Blk.mk true (42 : TypeId) (6 : Nat) true es)) := by kernel_rfl

theorem eclone_ok : SpecOK Try.prog 61 (genSpec [pEn] ecloneF) := by
  refine genSpec_ok none_ok fun l R hF => ?_
  unfold ecloneF at hF
  split at hF
  · rename_i r_l
    obtain ⟨hr_l, hl, hF⟩ := hF
    generalize deE r_l = l at hr_l hl hF
    subst hr_l
    refine ⟨_, hF, trivial, [.fork [] [.rows ((List.map enE) l)]], ?_⟩
    show run [] Try.prog _ [.vsl 0 0 (l.map enE).length] [some ⟨false, (pEn.getD (0, 0)).1, (pEn.getD (0, 0)).2, true, (l.map enE)⟩] _ _
    rw [eclone_run]
    refine ⟨fun h => List.eq_nil_of_length_eq_zero h, ⟨by rw [List.length_map]; omega, by rw [List.length_map]; omega, by omega, Nat.zero_le _⟩, ?_, by omega, rfl⟩
    rw [List.nil_append, whole_row]
  · exact hF.elim


noncomputable def esortCs : List (FuncId × Sx.Spec) := [(61, genSpec [pEn] ecloneF),
  (66, esortfSpec)]

theorem esort_run (l : List En) (es : List AV) : run esortCs Try.prog 33 [.vsl 0 0 (l.map enE).length] [some ⟨false, (pEn.getD (0, 0)).1, (pEn.getD (0, 0)).2, true, (l.map enE)⟩] [] (yields (.vrow 42 6 es)) =
    ((0 : Nat) + List.length (List.map enE l) ≤ List.length (List.map enE l) ∧ List.take (List.length (List.map enE l)) (List.drop (0 : Nat) (List.map enE l)) = List.map enE (deE (List.take (List.length (List.map enE l)) (List.drop (0 : Nat) (List.map enE l)))) ∧ List.length (deE (List.take (List.length (List.map enE l)) (List.drop (0 : Nat) (List.map enE l)))) ≤ (1000000 : Nat) ∧ (List.map enE (deE (List.take (List.length (List.map enE l)) (List.drop (0 : Nat) (List.map enE l))))) = List.map enE (deE (List.map enE (deE (List.take (List.length (List.map enE l)) (List.drop (0 : Nat) (List.map enE l)))))) ∧ List.length (List.map enE (deE (List.take (List.length (List.map enE l)) (List.drop (0 : Nat) (List.map enE l))))) = List.length (deE (List.map enE (deE (List.take (List.length (List.map enE l)) (List.drop (0 : Nat) (List.map enE l)))))) ∧ List.length (List.map enE (deE (List.take (List.length (List.map enE l)) (List.drop (0 : Nat) (List.map enE l))))) < (4611686018427387904 : Nat) ∧ List.length (List.map enE (deE (List.take (List.length (List.map enE l)) (List.drop (0 : Nat) (List.map enE l))))) = List.length es ∧ some (Blk.mk true (nat_lit 42) (6 : Nat) true (List.map enE (srE (deE (List.map enE (deE (List.take (List.length (List.map enE l)) (List.drop (0 : Nat) (List.map enE l))))))))) = some (Blk.mk true (42 : TypeId) (6 : Nat) true es)) := by kernel_rfl

theorem esortCs_ok : ∀ e ∈ esortCs, SpecOK Try.prog e.1 e.2 := by
  intro e he
  simp only [esortCs, List.mem_cons, List.not_mem_nil, or_false] at he
  rcases he with rfl | rfl
  · exact eclone_ok
  · exact esortf_ok

theorem esort_ok : SpecOK Try.prog 33 (genSpec [pEn] esortF) := by
  refine genSpec_ok (run_ok (l := esortCs) esortCs_ok mixed noNG) fun l R hF => ?_
  unfold esortF at hF
  split at hF
  · rename_i r_l
    obtain ⟨hr_l, hl, hF⟩ := hF
    generalize deE r_l = l at hr_l hl hF
    subst hr_l
    refine ⟨_, hF, trivial, [], ?_⟩
    show run esortCs Try.prog _ [.vsl 0 0 (l.map enE).length] [some ⟨false, (pEn.getD (0, 0)).1, (pEn.getD (0, 0)).2, true, (l.map enE)⟩] _ _
    rw [esort_run]
    simp only [whole_row, deE_map]
    exact ⟨by omega, by trivial, hl, by trivial, by rw [List.length_map], by rw [List.length_map]; omega, by rw [List.length_map, List.length_map, srE_length], by trivial⟩
  · exact hF.elim


end Go.Proofs.Ytnjbgbdcbejciaa.L1
