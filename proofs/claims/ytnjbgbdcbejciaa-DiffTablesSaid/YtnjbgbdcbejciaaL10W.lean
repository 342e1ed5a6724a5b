/-
  Layer 10: the program's entries of a table, Build, Mode.
-/
import Derived.Test.YtnjbgbdcbejciaaL10b
import Derived.Test.YtnjbgbdcbejciaaL5S
import Derived.Test.YtnjbgbdcbejciaaL9b
namespace Go.Proofs.Ytnjbgbdcbejciaa.L1
open Go.Sx Go.Sx.M

theorem gmerge10_ok : SpecOK Try.prog 20 (genSpec [pEn] gmerge10F) := gmerge10_of esort_ok

/-- The first i routes' entries. -/
def gnT (l : List Ro) (i : Nat) : List En := (l.take i).map rtOE
def gnA (l : List Ro) : List En := srE (l.map rtOE)
def gnS (F : List En → List AV) (l : List Ro) (i : Nat) : St :=
  ⟨[.any, .any, .lit (.slice none 0 0), .vsl 1 0 (F (gnT l i)).length, .any, .any, .vsl 0 0 (l.map roE).length, .int .i64 (l.map roE).length, .int .i64 i, .any, .any, .any, .any, .any, .any, .any, .any, .any, .any, .any, .any, .any, .any], [some ⟨false, 73, 4, true, l.map roE⟩, some ⟨true, 42, 6, true, F (gnT l i)⟩]⟩
def gnM0 : Modes := ⟨[0, 0, 1, 1, 0, 0, 1, 1, 2, 0, 0, 0, 0, 0, 0, 0, 0, 0, 0, 0, 0, 0, 0], [], [], [], [(3, 42, 6)]⟩
def gnM : Modes := ⟨[0, 0, 1, 1, 0, 0, 1, 1, 1, 0, 0, 0, 0, 0, 0, 0, 0, 0, 0, 0, 0, 0, 0], [], [], [], []⟩
def gnM' : Modes := ⟨[0, 0, 1, 1, 0, 0, 0, 0, 0, 0, 0, 0, 0, 0, 0, 0, 0, 0, 0, 0, 0, 0, 0], [], [], [], []⟩
def gnH (F : List En → List AV) (l : List Ro) : List Hint := [.linv _ 0 (gnS F l) (fun i => i ≤ l.length) (fun i => l.length + 1 - i) gnM0 gnM gnM' (fun _ => []) fun i =>
  [.fork [.dy, .cell (roE (at' l i)), .rows (F (gnT l (i + 1))), .nw] []]]

def gentries10F : List Arg → (Res → Prop) → Prop
  | [.row r_l], R => r_l = (deR r_l).map roE ∧ (deR r_l).length ≤ 1000000 ∧ R (.vrow 42 6 ((gnA (deR r_l)).map enE))
  | _, _ => False

noncomputable def gentries10Cs : List (FuncId × Sx.Spec) := [(58, genSpec [none, none] eofF),
  (33, genSpec [pEn] esortF)]

theorem gentries10_run (l : List Ro) (F : List En → List AV) (es : List AV) : run gentries10Cs Try.prog 43 [.vsl 0 0 (l.map roE).length] [some ⟨false, (pRo.getD (0, 0)).1, (pRo.getD (0, 0)).2, true, (l.map roE)⟩] (gnH F l) (yields (.vrow 42 6 es)) =
    ((St.mk [.any, .any, AV.lit (Value.slice none 0 0), AV.vsl (List.length [some (Blk.mk false (73 : TypeId) 4 true (List.map roE l))]) 0 0, .any, .any, AV.vsl 0 0 (List.length (List.map roE l)), AV.int IntKind.i64 (↑(List.length (List.map roE l)) : Int), AV.int IntKind.i64 0, .any, .any, .any, .any, .any, .any, .any, .any, .any, .any, .any, .any, .any, .any] ([some (Blk.mk false (73 : TypeId) 4 true (List.map roE l))] ++ [some (Blk.mk true (42 : TypeId) 6 true [])]) = gnS F l 0 ∧ Nat.le 0 (List.length l)) ∧ ∀ (p : Nat), Nat.le p (List.length l) → (Decidable.decide ((↑p : Int) < (↑(List.length (List.map roE l)) : Int)) = true → ((0 : Int) ≤ (↑p : Int) ∧ (↑p : Int) < (↑(List.length (List.map roE l)) : Int)) ∧ Blk.read Proofs.Try.prog (Blk.mk false (73 : TypeId) 4 true (List.map roE l)) 73 ((0 : Nat) + Int.toNat (↑p : Int)) 0 = some (AV.agg [AV.w64 (Ro.p (at' l p)).1, AV.w64 (Ro.p (at' l p)).2, AV.int IntKind.i64 (Ro.p (at' l p)).3, AV.int IntKind.i64 (at' l p).2]) ∧ ((List.length (F (gnT l p)) + (1 : Nat)) * (48 : Nat) ≤ (140737488355328 : Nat) ∧ List.length (F (gnT l p)) + (1 : Nat) ≤ (9223372036854775807 : Nat) ∧ (0 : Nat) + (1 : Nat) ≤ List.length [AV.agg [AV.w64 ((Ro.p (at' l p)).1 &&& mkW (Ro.p (at' l p)).3), AV.w64 ((Ro.p (at' l p)).2 &&& mkW ((Ro.p (at' l p)).3 - (64 : Int))), AV.w64 (mkW (Ro.p (at' l p)).3), AV.w64 (mkW ((Ro.p (at' l p)).3 - (64 : Int))), AV.int IntKind.i64 (clamp (Ro.p (at' l p)).3), AV.int IntKind.i64 (at' l p).2]] ∧ List.length (F (gnT l p)) ≤ List.length (F (gnT l p))) ∧ List.take (List.length (F (gnT l p))) (F (gnT l p)) ++ [AV.agg [AV.w64 ((Ro.p (at' l p)).1 &&& mkW (Ro.p (at' l p)).3), AV.w64 ((Ro.p (at' l p)).2 &&& mkW ((Ro.p (at' l p)).3 - (64 : Int))), AV.w64 (mkW (Ro.p (at' l p)).3), AV.w64 (mkW ((Ro.p (at' l p)).3 - (64 : Int))), AV.int IntKind.i64 (clamp (Ro.p (at' l p)).3), AV.int IntKind.i64 (at' l p).2]] = F (gnT l (p + (1 : Nat))) ∧ inRange IntKind.i64 ((↑p : Int) + (1 : Int)) ∧ ∃ (p' : Nat), St.mk [.any, .any, AV.lit (Value.slice none 0 0), AV.vsl ((0 : Nat) + (1 : Nat)) 0 (List.length (F (gnT l p)) + (1 : Nat)), .any, .any, AV.vsl 0 0 (List.length (List.map roE l)), AV.int IntKind.i64 (↑(List.length (List.map roE l)) : Int), AV.int IntKind.i64 ((↑p : Int) + (1 : Int)), .any, .any, .any, .any, .any, .any, .any, .any, .any, .any, .any, .any, .any, .any] [some (Blk.mk false (73 : TypeId) 4 true (List.map roE l)), some (Blk.mk true 42 6 true (F (gnT l (p + (1 : Nat)))))] = gnS F l p' ∧ Nat.le p' (List.length l) ∧ List.length l + (1 : Nat) - p' < List.length l + (1 : Nat) - p) ∧ (Decidable.decide ((↑p : Int) < (↑(List.length (List.map roE l)) : Int)) = false → (0 : Nat) + List.length (F (gnT l p)) ≤ List.length (F (gnT l p)) ∧ List.take (List.length (F (gnT l p))) (List.drop 0 (F (gnT l p))) = List.map enE (deE (List.take (List.length (F (gnT l p))) (List.drop 0 (F (gnT l p))))) ∧ List.length (deE (List.take (List.length (F (gnT l p))) (List.drop 0 (F (gnT l p))))) ≤ (1000000 : Nat) ∧ List.length (List.map enE (srE (deE (List.take (List.length (F (gnT l p))) (List.drop 0 (F (gnT l p))))))) = List.length es ∧ some (Blk.mk true (42 : TypeId) 6 true (List.map enE (srE (deE (List.take (List.length (F (gnT l p))) (List.drop 0 (F (gnT l p)))))))) = some (Blk.mk true (42 : TypeId) 6 true es))) := by kernel_rfl

theorem gentries10Cs_ok : ∀ e ∈ gentries10Cs, SpecOK Try.prog e.1 e.2 := by
  intro e he
  simp only [gentries10Cs, List.mem_cons, List.not_mem_nil, or_false] at he
  rcases he with rfl | rfl
  · exact eof_ok
  · exact esort_ok

theorem gentries10_ok : SpecOK Try.prog 43 (genSpec [pRo] gentries10F) := by
  refine genSpec_ok (run_ok (l := gentries10Cs) gentries10Cs_ok mixed noNG) fun l R hF => ?_
  unfold gentries10F at hF
  split at hF
  · rename_i r_l
    obtain ⟨hr_l, hl, hF⟩ := hF
    generalize deR r_l = l at hr_l hl hF
    subst hr_l
    refine ⟨_, hF, trivial, (gnH (List.map enE) l), ?_⟩
    show run gentries10Cs Try.prog _ [.vsl 0 0 (l.map roE).length] [some ⟨false, (pRo.getD (0, 0)).1, (pRo.getD (0, 0)).2, true, (l.map roE)⟩] _ _
    rw [gentries10_run]
    simp only [whole_row, deE_map]
    have hT : ∀ i, i ≤ l.length → (gnT l i).length = i := fun i hi => by unfold gnT; rw [List.length_map, List.length_take]; omega
    refine ⟨⟨rfl, Nat.zero_le _⟩, fun i hi => ⟨fun hlt => ?_, fun hge => ?_⟩⟩
    · replace hi : i ≤ l.length := hi
      replace hlt := of_decide_eq_true hlt
      rw [List.length_map] at hlt
      have hTi := hT i hi
      refine ⟨⟨by omega, by rw [List.length_map]; omega⟩, read_rows (by omega) (by rw [List.length_map]; omega) (ro_whole _), ⟨by rw [List.length_map]; omega, by rw [List.length_map]; omega, Nat.le_refl _, Nat.le_refl _⟩, ?_, inR (by omega) (by omega), i + 1, ?_, (by omega : i + 1 ≤ l.length), by omega⟩
      · rw [List.take_length]
        unfold gnT
        rw [take_one (show i < l.length by omega), List.map_append, List.map_append]
        rfl
      · unfold gnS
        rw [show ((gnT l (i + 1)).map enE).length = ((gnT l i).map enE).length + 1 by rw [List.length_map, List.length_map, hTi, hT (i + 1) (by omega)]]
        rfl
    · replace hi : i ≤ l.length := hi
      replace hge := of_decide_eq_false hge
      rw [List.length_map] at hge
      have hil : i = l.length := by omega
      subst hil
      have hTl := hT l.length (Nat.le_refl _)
      have hTT : gnT l l.length = l.map rtOE := by unfold gnT; rw [List.take_length]
      exact ⟨by omega, trivial, by omega, by rw [hTT]; rfl, by rw [hTT]; rfl⟩
  · exact hF.elim


noncomputable def gbuild10Cs : List (FuncId × Sx.Spec) := [(43, genSpec [pRo] gentries10F),
  (44, genSpec [pRo] gkeep9F),
  (20, genSpec [pEn] gmerge10F)]

theorem gbuild10_run (l : List Ro) (m : Int) (es : List AV) : run gbuild10Cs Try.prog 15 [.vsl 0 0 (l.map roE).length, .int .i64 m] [some ⟨false, (pRo.getD (0, 0)).1, (pRo.getD (0, 0)).2, true, (l.map roE)⟩] [.fork [] [.fork [] [.fork [] []]]] (yields (.vrow 42 6 es)) =
    (((m == (0 : Int)) = true → (0 : Nat) + List.length (List.map roE l) ≤ List.length (List.map roE l) ∧ List.take (List.length (List.map roE l)) (List.drop (0 : Nat) (List.map roE l)) = List.map roE (deR (List.take (List.length (List.map roE l)) (List.drop (0 : Nat) (List.map roE l)))) ∧ List.length (deR (List.take (List.length (List.map roE l)) (List.drop (0 : Nat) (List.map roE l)))) ≤ (1000000 : Nat) ∧ List.length (List.map enE (gnA (deR (List.take (List.length (List.map roE l)) (List.drop (0 : Nat) (List.map roE l)))))) = List.length es ∧ some (Blk.mk true (42 : TypeId) (6 : Nat) true (List.map enE (gnA (deR (List.take (List.length (List.map roE l)) (List.drop (0 : Nat) (List.map roE l))))))) = some (Blk.mk true (42 : TypeId) (6 : Nat) true es)) ∧ ((m == (0 : Int)) = false → ((m == (1 : Int)) = true → (0 : Nat) + List.length (List.map roE l) ≤ List.length (List.map roE l) ∧ List.take (List.length (List.map roE l)) (List.drop (0 : Nat) (List.map roE l)) = List.map roE (deR (List.take (List.length (List.map roE l)) (List.drop (0 : Nat) (List.map roE l)))) ∧ tbR (128 : Int) (deR (List.take (List.length (List.map roE l)) (List.drop (0 : Nat) (List.map roE l)))) = true ∧ (0 : Nat) + List.length (List.map roE (kpR (deR (List.take (List.length (List.map roE l)) (List.drop (0 : Nat) (List.map roE l)))))) ≤ List.length (List.map roE (kpR (deR (List.take (List.length (List.map roE l)) (List.drop (0 : Nat) (List.map roE l)))))) ∧ List.take (List.length (List.map roE (kpR (deR (List.take (List.length (List.map roE l)) (List.drop (0 : Nat) (List.map roE l))))))) (List.drop (0 : Nat) (List.map roE (kpR (deR (List.take (List.length (List.map roE l)) (List.drop (0 : Nat) (List.map roE l))))))) = List.map roE (deR (List.take (List.length (List.map roE (kpR (deR (List.take (List.length (List.map roE l)) (List.drop (0 : Nat) (List.map roE l))))))) (List.drop (0 : Nat) (List.map roE (kpR (deR (List.take (List.length (List.map roE l)) (List.drop (0 : Nat) (List.map roE l))))))))) ∧ List.length (deR (List.take (List.length (List.map roE (kpR (deR (List.take (List.length (List.map roE l)) (List.drop (0 : Nat) (List.map roE l))))))) (List.drop (0 : Nat) (List.map roE (kpR (deR (List.take (List.length (List.map roE l)) (List.drop (0 : Nat) (List.map roE l))))))))) ≤ (1000000 : Nat) ∧ List.length (List.map enE (gnA (deR (List.take (List.length (List.map roE (kpR (deR (List.take (List.length (List.map roE l)) (List.drop (0 : Nat) (List.map roE l))))))) (List.drop (0 : Nat) (List.map roE (kpR (deR (List.take (List.length (List.map roE l)) (List.drop (0 : Nat) (List.map roE l))))))))))) = List.length es ∧ some (Blk.mk true (42 : TypeId) (6 : Nat) true (List.map enE (gnA (deR (List.take (List.length (List.map roE (kpR (deR (List.take (List.length (List.map roE l)) (List.drop (0 : Nat) (List.map roE l))))))) (List.drop (0 : Nat) (List.map roE (kpR (deR (List.take (List.length (List.map roE l)) (List.drop (0 : Nat) (List.map roE l)))))))))))) = some (Blk.mk true (42 : TypeId) (6 : Nat) true es)) ∧ ((m == (1 : Int)) = false → ((m == (2 : Int)) = true → (0 : Nat) + List.length (List.map roE l) ≤ List.length (List.map roE l) ∧ List.take (List.length (List.map roE l)) (List.drop (0 : Nat) (List.map roE l)) = List.map roE (deR (List.take (List.length (List.map roE l)) (List.drop (0 : Nat) (List.map roE l)))) ∧ tbR (128 : Int) (deR (List.take (List.length (List.map roE l)) (List.drop (0 : Nat) (List.map roE l)))) = true ∧ (0 : Nat) + List.length (List.map roE (kpR (deR (List.take (List.length (List.map roE l)) (List.drop (0 : Nat) (List.map roE l)))))) ≤ List.length (List.map roE (kpR (deR (List.take (List.length (List.map roE l)) (List.drop (0 : Nat) (List.map roE l)))))) ∧ List.take (List.length (List.map roE (kpR (deR (List.take (List.length (List.map roE l)) (List.drop (0 : Nat) (List.map roE l))))))) (List.drop (0 : Nat) (List.map roE (kpR (deR (List.take (List.length (List.map roE l)) (List.drop (0 : Nat) (List.map roE l))))))) = List.map roE (deR (List.take (List.length (List.map roE (kpR (deR (List.take (List.length (List.map roE l)) (List.drop (0 : Nat) (List.map roE l))))))) (List.drop (0 : Nat) (List.map roE (kpR (deR (List.take (List.length (List.map roE l)) (List.drop (0 : Nat) (List.map roE l))))))))) ∧ List.length (deR (List.take (List.length (List.map roE (kpR (deR (List.take (List.length (List.map roE l)) (List.drop (0 : Nat) (List.map roE l))))))) (List.drop (0 : Nat) (List.map roE (kpR (deR (List.take (List.length (List.map roE l)) (List.drop (0 : Nat) (List.map roE l))))))))) ≤ (1000000 : Nat) ∧ (0 : Nat) + List.length (List.map enE (gnA (deR (List.take (List.length (List.map roE (kpR (deR (List.take (List.length (List.map roE l)) (List.drop (0 : Nat) (List.map roE l))))))) (List.drop (0 : Nat) (List.map roE (kpR (deR (List.take (List.length (List.map roE l)) (List.drop (0 : Nat) (List.map roE l))))))))))) ≤ List.length (List.map enE (gnA (deR (List.take (List.length (List.map roE (kpR (deR (List.take (List.length (List.map roE l)) (List.drop (0 : Nat) (List.map roE l))))))) (List.drop (0 : Nat) (List.map roE (kpR (deR (List.take (List.length (List.map roE l)) (List.drop (0 : Nat) (List.map roE l))))))))))) ∧ List.take (List.length (List.map enE (gnA (deR (List.take (List.length (List.map roE (kpR (deR (List.take (List.length (List.map roE l)) (List.drop (0 : Nat) (List.map roE l))))))) (List.drop (0 : Nat) (List.map roE (kpR (deR (List.take (List.length (List.map roE l)) (List.drop (0 : Nat) (List.map roE l)))))))))))) (List.drop (0 : Nat) (List.map enE (gnA (deR (List.take (List.length (List.map roE (kpR (deR (List.take (List.length (List.map roE l)) (List.drop (0 : Nat) (List.map roE l))))))) (List.drop (0 : Nat) (List.map roE (kpR (deR (List.take (List.length (List.map roE l)) (List.drop (0 : Nat) (List.map roE l)))))))))))) = List.map enE (deE (List.take (List.length (List.map enE (gnA (deR (List.take (List.length (List.map roE (kpR (deR (List.take (List.length (List.map roE l)) (List.drop (0 : Nat) (List.map roE l))))))) (List.drop (0 : Nat) (List.map roE (kpR (deR (List.take (List.length (List.map roE l)) (List.drop (0 : Nat) (List.map roE l)))))))))))) (List.drop (0 : Nat) (List.map enE (gnA (deR (List.take (List.length (List.map roE (kpR (deR (List.take (List.length (List.map roE l)) (List.drop (0 : Nat) (List.map roE l))))))) (List.drop (0 : Nat) (List.map roE (kpR (deR (List.take (List.length (List.map roE l)) (List.drop (0 : Nat) (List.map roE l)))))))))))))) ∧ List.length (deE (List.take (List.length (List.map enE (gnA (deR (List.take (List.length (List.map roE (kpR (deR (List.take (List.length (List.map roE l)) (List.drop (0 : Nat) (List.map roE l))))))) (List.drop (0 : Nat) (List.map roE (kpR (deR (List.take (List.length (List.map roE l)) (List.drop (0 : Nat) (List.map roE l)))))))))))) (List.drop (0 : Nat) (List.map enE (gnA (deR (List.take (List.length (List.map roE (kpR (deR (List.take (List.length (List.map roE l)) (List.drop (0 : Nat) (List.map roE l))))))) (List.drop (0 : Nat) (List.map roE (kpR (deR (List.take (List.length (List.map roE l)) (List.drop (0 : Nat) (List.map roE l)))))))))))))) ≤ (1000000 : Nat) ∧ List.length (List.map enE (mrE (deE (List.take (List.length (List.map enE (gnA (deR (List.take (List.length (List.map roE (kpR (deR (List.take (List.length (List.map roE l)) (List.drop (0 : Nat) (List.map roE l))))))) (List.drop (0 : Nat) (List.map roE (kpR (deR (List.take (List.length (List.map roE l)) (List.drop (0 : Nat) (List.map roE l)))))))))))) (List.drop (0 : Nat) (List.map enE (gnA (deR (List.take (List.length (List.map roE (kpR (deR (List.take (List.length (List.map roE l)) (List.drop (0 : Nat) (List.map roE l))))))) (List.drop (0 : Nat) (List.map roE (kpR (deR (List.take (List.length (List.map roE l)) (List.drop (0 : Nat) (List.map roE l)))))))))))))))) = List.length es ∧ some (Blk.mk true (42 : TypeId) (6 : Nat) true (List.map enE (mrE (deE (List.take (List.length (List.map enE (gnA (deR (List.take (List.length (List.map roE (kpR (deR (List.take (List.length (List.map roE l)) (List.drop (0 : Nat) (List.map roE l))))))) (List.drop (0 : Nat) (List.map roE (kpR (deR (List.take (List.length (List.map roE l)) (List.drop (0 : Nat) (List.map roE l)))))))))))) (List.drop (0 : Nat) (List.map enE (gnA (deR (List.take (List.length (List.map roE (kpR (deR (List.take (List.length (List.map roE l)) (List.drop (0 : Nat) (List.map roE l))))))) (List.drop (0 : Nat) (List.map roE (kpR (deR (List.take (List.length (List.map roE l)) (List.drop (0 : Nat) (List.map roE l))))))))))))))))) = some (Blk.mk true (42 : TypeId) (6 : Nat) true es)) ∧ ((m == (2 : Int)) = false → es = [])))) := by kernel_rfl

theorem gbuild10Cs_ok : ∀ e ∈ gbuild10Cs, SpecOK Try.prog e.1 e.2 := by
  intro e he
  simp only [gbuild10Cs, List.mem_cons, List.not_mem_nil, or_false] at he
  rcases he with rfl | rfl | rfl
  · exact gentries10_ok
  · exact gkeep9_ok
  · exact gmerge10_ok

theorem gbuild10_ok : SpecOK Try.prog 15 (genSpec [pRo, none] gbuild10F) := by
  refine genSpec_ok (run_ok (l := gbuild10Cs) gbuild10Cs_ok mixed noNG) fun l R hF => ?_
  unfold gbuild10F at hF
  split at hF
  · rename_i r_l m
    obtain ⟨hr_l, hl, hF⟩ := hF
    generalize deR r_l = l at hr_l hl hF
    subst hr_l
    refine ⟨_, hF, trivial, [.fork [] [.fork [] [.fork [] []]]], ?_⟩
    show run gbuild10Cs Try.prog _ [.vsl 0 0 (l.map roE).length, .int .i64 m] [some ⟨false, (pRo.getD (0, 0)).1, (pRo.getD (0, 0)).2, true, (l.map roE)⟩] _ _
    rw [gbuild10_run]
    obtain ⟨hl1, hl2⟩ := hl
    have hk := (kpR_sub l).length_le
    have hg : ∀ m : List Ro, (gnA m).length = m.length := fun m => by unfold gnA; rw [srE_length, List.length_map]
    have hgk := hg (kpR l)
    simp only [whole_row, deR_map, deE_map, beq_iff_eq, beq_eq_false_iff_ne]
    refine ⟨fun h => ?_, fun h => ⟨fun h1 => ?_, fun h1 => ⟨fun h2 => ?_, fun h2 => ?_⟩⟩⟩
    · have e : bdE l m = gnA l := by unfold bdE gnA; rw [if_pos h]
      rw [e]
      exact ⟨by omega, trivial, hl1, rfl, rfl⟩
    · have e : bdE l m = gnA (kpR l) := by unfold bdE gnA; rw [if_neg h, if_pos h1]
      rw [e]
      exact ⟨by omega, trivial, hl2, by omega, trivial, by omega, rfl, rfl⟩
    · have e : bdE l m = mrE (gnA (kpR l)) := by
        unfold bdE gnA
        rw [if_neg h, if_neg h1, if_pos h2]
        unfold mrE
        rw [srE_length, show srE (srE ((kpR l).map rtOE)) = srE ((kpR l).map rtOE) from (srE_uniq (srE_sorted _) (List.Perm.refl _)).symm]
      rw [e]
      exact ⟨by omega, trivial, hl2, by omega, trivial, by omega, by omega, trivial, by omega, rfl, rfl⟩
    · rw [bd_not (by omega)]
      rfl
  · exact hF.elim


end Go.Proofs.Ytnjbgbdcbejciaa.L1
