/-
  Texts in one: L10W L10U L10V L10Q.
-/
import Derived.Test.YtnjbgbdcbejciaaL10b
import Derived.Test.YtnjbgbdcbejciaaL5S
import Derived.Test.YtnjbgbdcbejciaaL9b
import Derived.Test.YtnjbgbdcbejciaaMb
import Derived.Test.YtnjbgbdcbejciaaL4I
import Derived.Test.YtnjbgbdcbejciaaL10a

section
/-
  Layer 10: the program's entries of a table, Build, Mode.
-/
namespace Go.Proofs.Ytnjbgbdcbejciaa.L1
open Go.Sx Go.Sx.M

theorem gmerge10_ok : SpecOK Try.prog 20 (genSpec [pEn] gmerge10F) := gmerge10_of esort_ok

/-- The first i routes' entries. -/
def gnT (l : List Ro) (i : Nat) : List En := (l.take i).map rtOE
def gnA (l : List Ro) : List En := srE (l.map rtOE)
def gnS (F : List En → List AV) (l : List Ro) (i : Nat) : St :=
  ⟨[.any, .any, .lit (.slice none 0 0), .vsl 1 0 (F (gnT l i)).length, .any, .any, .vsl 0 0 (l.map roE).length, .int .i64 (l.map roE).length, .int .i64 i, .any, .any, .any, .any, .any, .any, .any, .any, .any, .any, .any, .any, .any, .any], [some ⟨false, 73, 4, true, l.map roE⟩, some ⟨true, 42, 6, true, F (gnT l i)⟩]⟩
def gnM0 : Modes := ⟨[0, 0, 1, 1, 0, 0, 1, 1, 2, 0, 0, 0, 0, 0, 0, 0, 0, 0, 0, 0, 0, 0, 0], [], [], [], [(3, 42, 6)]⟩
def gnM : Modes := ⟨[0, 0, 1, 1, 0, 0, 1, 1, 1, 0, 0, 0, 0, 0, 0, 0, 0, 0, 0, 0, 0, 0, 0], [], [], [], []⟩
def gnM' : Modes := ⟨[0, 0, 1, 1, 0, 0, 0, 0, 0, 0, 0, 0, 0, 0, 0, 0, 0, 0, 0, 0, 0, 0, 0], [], [], [], []⟩
def gnH (F : List En → List AV) (l : List Ro) : List Hint := [.linv _ 0 (gnS F l) (fun i => i ≤ l.length) (fun i => l.length + 1 - i) gnM0 gnM gnM' (fun _ => []) fun i =>
  [.fork [.dy, .cell (roE (at' l i)), .rows (F (gnT l (i + 1))), .nw] []]]

def gentries10F : List Arg → (Res → Prop) → Prop
  | [.row r_l], R => r_l = (deR r_l).map roE ∧ (deR r_l).length ≤ 1000000 ∧ R (.vrow 42 6 ((gnA (deR r_l)).map enE))
  | _, _ => False

noncomputable def gentries10Cs : List (FuncId × Sx.Spec) := [(58, genSpec [none, none] eofF),
  (33, genSpec [pEn] esortF)]

theorem gentries10_run (l : List Ro) (F : List En → List AV) (es : List AV) : run gentries10Cs Try.prog 43 [.vsl 0 0 (l.map roE).length] [some ⟨false, (pRo.getD (0, 0)).1, (pRo.getD (0, 0)).2, true, (l.map roE)⟩] (gnH F l) (yields (.vrow 42 6 es)) =
    ((St.mk [.any, .any, AV.lit (Value.slice none 0 0), AV.vsl (List.length [some (Blk.mk false (73 : TypeId) 4 true (List.map roE l))]) 0 0, .any, .any, AV.vsl 0 0 (List.length (List.map roE l)), AV.int IntKind.i64 (↑(List.length (List.map roE l)) : Int), AV.int IntKind.i64 0, .any, .any, .any, .any, .any, .any, .any, .any, .any, .any, .any, .any, .any, .any] ([some (Blk.mk false (73 : TypeId) 4 true (List.map roE l))] ++ [some (Blk.mk true (42 : TypeId) 6 true [])]) = gnS F l 0 ∧ Nat.le 0 (List.length l)) ∧ ∀ (p : Nat), Nat.le p (List.length l) → (Decidable.decide ((↑p : Int) < (↑(List.length (List.map roE l)) : Int)) = true → ((0 : Int) ≤ (↑p : Int) ∧ (↑p : Int) < (↑(List.length (List.map roE l)) : Int)) ∧ Blk.read Proofs.Try.prog (Blk.mk false (73 : TypeId) 4 true (List.map roE l)) 73 ((0 : Nat) + Int.toNat (↑p : Int)) 0 = some (AV.agg [AV.w64 (Ro.p (at' l p)).1, AV.w64 (Ro.p (at' l p)).2, AV.int IntKind.i64 (Ro.p (at' l p)).3, AV.int IntKind.i64 (at' l p).2]) ∧ ((List.length (F (gnT l p)) + (1 : Nat)) * (48 : Nat) ≤ (140737488355328 : Nat) ∧ List.length (F (gnT l p)) + (1 : Nat) ≤ (9223372036854775807 : Nat) ∧ (0 : Nat) + (1 : Nat) ≤ List.length [AV.agg [AV.w64 ((Ro.p (at' l p)).1 &&& mkW (Ro.p (at' l p)).3), AV.w64 ((Ro.p (at' l p)).2 &&& mkW ((Ro.p (at' l p)).3 - (64 : Int))), AV.w64 (mkW (Ro.p (at' l p)).3), AV.w64 (mkW ((Ro.p (at' l p)).3 - (64 : Int))), AV.int IntKind.i64 (clamp (Ro.p (at' l p)).3), AV.int IntKind.i64 (at' l p).2]] ∧ List.length (F (gnT l p)) ≤ List.length (F (gnT l p))) ∧ List.take (List.length (F (gnT l p))) (F (gnT l p)) ++ [AV.agg [AV.w64 ((Ro.p (at' l p)).1 &&& mkW (Ro.p (at' l p)).3), AV.w64 ((Ro.p (at' l p)).2 &&& mkW ((Ro.p (at' l p)).3 - (64 : Int))), AV.w64 (mkW (Ro.p (at' l p)).3), AV.w64 (mkW ((Ro.p (at' l p)).3 - (64 : Int))), AV.int IntKind.i64 (clamp (Ro.p (at' l p)).3), AV.int IntKind.i64 (at' l p).2]] = F (gnT l (p + (1 : Nat))) ∧ inRange IntKind.i64 ((↑p : Int) + (1 : Int)) ∧ ∃ (p' : Nat), St.mk [.any, .any, AV.lit (Value.slice none 0 0), AV.vsl ((0 : Nat) + (1 : Nat)) 0 (List.length (F (gnT l p)) + (1 : Nat)), .any, .any, AV.vsl 0 0 (List.length (List.map roE l)), AV.int IntKind.i64 (↑(List.length (List.map roE l)) : Int), AV.int IntKind.i64 ((↑p : Int) + (1 : Int)), .any, .any, .any, .any, .any, .any, .any, .any, .any, .any, .any, .any, .any, .any] [some (Blk.mk false (73 : TypeId) 4 true (List.map roE l)), some (Blk.mk true 42 6 true (F (gnT l (p + (1 : Nat)))))] = gnS F l p' ∧ Nat.le p' (List.length l) ∧ List.length l + (1 : Nat) - p' < List.length l + (1 : Nat) - p) ∧ (Decidable.decide ((↑p : Int) < (↑(List.length (List.map roE l)) : Int)) = false → (0 : Nat) + List.length (F (gnT l p)) ≤ List.length (F (gnT l p)) ∧ List.take (List.length (F (gnT l p))) (List.drop 0 (F (gnT l p))) = List.map enE (deE (List.take (List.length (F (gnT l p))) (List.drop 0 (F (gnT l p))))) ∧ List.length (deE (List.take (List.length (F (gnT l p))) (List.drop 0 (F (gnT l p))))) ≤ (1000000 : Nat) ∧ List.length (List.map enE (srE (deE (List.take (List.length (F (gnT l p))) (List.drop 0 (F (gnT l p))))))) = List.length es ∧ some (Blk.mk true (42 : TypeId) 6 true (List.map enE (srE (deE (List.take (List.length (F (gnT l p))) (List.drop 0 (F (gnT l p)))))))) = some (Blk.mk true (42 : TypeId) 6 true es))) := by kernel_rfl

theorem gentries10Cs_ok : ∀ e ∈ gentries10Cs, SpecOK Try.prog e.1 e.2 := by
  intro e he
  simp only [gentries10Cs, List.mem_cons, List.not_mem_nil, or_false] at he
  rcases he with rfl | rfl
  · exact eof_ok
  · exact esort_ok

theorem gentries10_ok : SpecOK Try.prog 43 (genSpec [pRo] gentries10F) := by
  refine genSpec_ok (run_ok (l := gentries10Cs) gentries10Cs_ok mixed noNG) fun l R hF => ?_
  unfold gentries10F at hF
  split at hF
  · rename_i r_l
    obtain ⟨hr_l, hl, hF⟩ := hF
    generalize deR r_l = l at hr_l hl hF
    subst hr_l
    refine ⟨_, hF, trivial, (gnH (List.map enE) l), ?_⟩
    show run gentries10Cs Try.prog _ [.vsl 0 0 (l.map roE).length] [some ⟨false, (pRo.getD (0, 0)).1, (pRo.getD (0, 0)).2, true, (l.map roE)⟩] _ _
    rw [gentries10_run]
    simp only [whole_row, deE_map]
    have hT : ∀ i, i ≤ l.length → (gnT l i).length = i := fun i hi => by unfold gnT; rw [List.length_map, List.length_take]; omega
    refine ⟨⟨rfl, Nat.zero_le _⟩, fun i hi => ⟨fun hlt => ?_, fun hge => ?_⟩⟩
    · replace hi : i ≤ l.length := hi
      replace hlt := of_decide_eq_true hlt
      rw [List.length_map] at hlt
      have hTi := hT i hi
      refine ⟨⟨by omega, by rw [List.length_map]; omega⟩, read_rows (by omega) (by rw [List.length_map]; omega) (ro_whole _), ⟨by rw [List.length_map]; omega, by rw [List.length_map]; omega, Nat.le_refl _, Nat.le_refl _⟩, ?_, inR (by omega) (by omega), i + 1, ?_, (by omega : i + 1 ≤ l.length), by omega⟩
      · rw [List.take_length]
        unfold gnT
        rw [take_one (show i < l.length by omega), List.map_append, List.map_append]
        rfl
      · unfold gnS
        rw [show ((gnT l (i + 1)).map enE).length = ((gnT l i).map enE).length + 1 by rw [List.length_map, List.length_map, hTi, hT (i + 1) (by omega)]]
        rfl
    · replace hi : i ≤ l.length := hi
      replace hge := of_decide_eq_false hge
      rw [List.length_map] at hge
      have hil : i = l.length := by omega
      subst hil
      have hTl := hT l.length (Nat.le_refl _)
      have hTT : gnT l l.length = l.map rtOE := by unfold gnT; rw [List.take_length]
      exact ⟨by omega, trivial, by omega, by rw [hTT]; rfl, by rw [hTT]; rfl⟩
  · exact hF.elim


noncomputable def gbuild10Cs : List (FuncId × Sx.Spec) := [(43, genSpec [pRo] gentries10F),
  (44, genSpec [pRo] gkeep9F),
  (20, genSpec [pEn] gmerge10F)]

theorem gbuild10_run (l : List Ro) (m : Int) (es : List AV) : run gbuild10Cs Try.prog 15 [.vsl 0 0 (l.map roE).length, .int .i64 m] [some ⟨false, (pRo.getD (0, 0)).1, (pRo.getD (0, 0)).2, true, (l.map roE)⟩] [.fork [] [.fork [] [.fork [] []]]] (yields (.vrow 42 6 es)) =
    (((m == (0 : Int)) = true → (0 : Nat) + List.length (List.map roE l) ≤ List.length (List.map roE l) ∧ List.take (List.length (List.map roE l)) (List.drop (0 : Nat) (List.map roE l)) = List.map roE (deR (List.take (List.length (List.map roE l)) (List.drop (0 : Nat) (List.map roE l)))) ∧ List.length (deR (List.take (List.length (List.map roE l)) (List.drop (0 : Nat) (List.map roE l)))) ≤ (1000000 : Nat) ∧ List.length (List.map enE (gnA (deR (List.take (List.length (List.map roE l)) (List.drop (0 : Nat) (List.map roE l)))))) = List.length es ∧ some (Blk.mk true (42 : TypeId) (6 : Nat) true (List.map enE (gnA (deR (List.take (List.length (List.map roE l)) (List.drop (0 : Nat) (List.map roE l))))))) = some (Blk.mk true (42 : TypeId) (6 : Nat) true es)) ∧ ((m == (0 : Int)) = false → ((m == (1 : Int)) = true → (0 : Nat) + List.length (List.map roE l) ≤ List.length (List.map roE l) ∧ List.take (List.length (List.map roE l)) (List.drop (0 : Nat) (List.map roE l)) = List.map roE (deR (List.take (List.length (List.map roE l)) (List.drop (0 : Nat) (List.map roE l)))) ∧ tbR (128 : Int) (deR (List.take (List.length (List.map roE l)) (List.drop (0 : Nat) (List.map roE l)))) = true ∧ (0 : Nat) + List.length (List.map roE (kpR (deR (List.take (List.length (List.map roE l)) (List.drop (0 : Nat) (List.map roE l)))))) ≤ List.length (List.map roE (kpR (deR (List.take (List.length (List.map roE l)) (List.drop (0 : Nat) (List.map roE l)))))) ∧ List.take (List.length (List.map roE (kpR (deR (List.take (List.length (List.map roE l)) (List.drop (0 : Nat) (List.map roE l))))))) (List.drop (0 : Nat) (List.map roE (kpR (deR (List.take (List.length (List.map roE l)) (List.drop (0 : Nat) (List.map roE l))))))) = List.map roE (deR (List.take (List.length (List.map roE (kpR (deR (List.take (List.length (List.map roE l)) (List.drop (0 : Nat) (List.map roE l))))))) (List.drop (0 : Nat) (List.map roE (kpR (deR (List.take (List.length (List.map roE l)) (List.drop (0 : Nat) (List.map roE l))))))))) ∧ List.length (deR (List.take (List.length (List.map roE (kpR (deR (List.take (List.length (List.map roE l)) (List.drop (0 : Nat) (List.map roE l))))))) (List.drop (0 : Nat) (List.map roE (kpR (deR (List.take (List.length (List.map roE l)) (List.drop (0 : Nat) (List.map roE l))))))))) ≤ (1000000 : Nat) ∧ List.length (List.map enE (gnA (deR (List.take (List.length (List.map roE (kpR (deR (List.take (List.length (List.map roE l)) (List.drop (0 : Nat) (List.map roE l))))))) (List.drop (0 : Nat) (List.map roE (kpR (deR (List.take (List.length (List.map roE l)) (List.drop (0 : Nat) (List.map roE l))))))))))) = List.length es ∧ some (Blk.mk true (42 : TypeId) (6 : Nat) true (List.map enE (gnA (deR (List.take (List.length (List.map roE (kpR (deR (List.take (List.length (List.map roE l)) (List.drop (0 : Nat) (List.map roE l))))))) (List.drop (0 : Nat) (List.map roE (kpR (deR (List.take (List.length (List.map roE l)) (List.drop (0 : Nat) (List.map roE l)))))))))))) = some (Blk.mk true (42 : TypeId) (6 : Nat) true es)) ∧ ((m == (1 : Int)) = false → ((m == (2 : Int)) = true → (0 : Nat) + List.length (List.map roE l) ≤ List.length (List.map roE l) ∧ List.take (List.length (List.map roE l)) (List.drop (0 : Nat) (List.map roE l)) = List.map roE (deR (List.take (List.length (List.map roE l)) (List.drop (0 : Nat) (List.map roE l)))) ∧ tbR (128 : Int) (deR (List.take (List.length (List.map roE l)) (List.drop (0 : Nat) (List.map roE l)))) = true ∧ (0 : Nat) + List.length (List.map roE (kpR (deR (List.take (List.length (List.map roE l)) (List.drop (0 : Nat) (List.map roE l)))))) ≤ List.length (List.map roE (kpR (deR (List.take (List.length (List.map roE l)) (List.drop (0 : Nat) (List.map roE l)))))) ∧ List.take (List.length (List.map roE (kpR (deR (List.take (List.length (List.map roE l)) (List.drop (0 : Nat) (List.map roE l))))))) (List.drop (0 : Nat) (List.map roE (kpR (deR (List.take (List.length (List.map roE l)) (List.drop (0 : Nat) (List.map roE l))))))) = List.map roE (deR (List.take (List.length (List.map roE (kpR (deR (List.take (List.length (List.map roE l)) (List.drop (0 : Nat) (List.map roE l))))))) (List.drop (0 : Nat) (List.map roE (kpR (deR (List.take (List.length (List.map roE l)) (List.drop (0 : Nat) (List.map roE l))))))))) ∧ List.length (deR (List.take (List.length (List.map roE (kpR (deR (List.take (List.length (List.map roE l)) (List.drop (0 : Nat) (List.map roE l))))))) (List.drop (0 : Nat) (List.map roE (kpR (deR (List.take (List.length (List.map roE l)) (List.drop (0 : Nat) (List.map roE l))))))))) ≤ (1000000 : Nat) ∧ (0 : Nat) + List.length (List.map enE (gnA (deR (List.take (List.length (List.map roE (kpR (deR (List.take (List.length (List.map roE l)) (List.drop (0 : Nat) (List.map roE l))))))) (List.drop (0 : Nat) (List.map roE (kpR (deR (List.take (List.length (List.map roE l)) (List.drop (0 : Nat) (List.map roE l))))))))))) ≤ List.length (List.map enE (gnA (deR (List.take (List.length (List.map roE (kpR (deR (List.take (List.length (List.map roE l)) (List.drop (0 : Nat) (List.map roE l))))))) (List.drop (0 : Nat) (List.map roE (kpR (deR (List.take (List.length (List.map roE l)) (List.drop (0 : Nat) (List.map roE l))))))))))) ∧ List.take (List.length (List.map enE (gnA (deR (List.take (List.length (List.map roE (kpR (deR (List.take (List.length (List.map roE l)) (List.drop (0 : Nat) (List.map roE l))))))) (List.drop (0 : Nat) (List.map roE (kpR (deR (List.take (List.length (List.map roE l)) (List.drop (0 : Nat) (List.map roE l)))))))))))) (List.drop (0 : Nat) (List.map enE (gnA (deR (List.take (List.length (List.map roE (kpR (deR (List.take (List.length (List.map roE l)) (List.drop (0 : Nat) (List.map roE l))))))) (List.drop (0 : Nat) (List.map roE (kpR (deR (List.take (List.length (List.map roE l)) (List.drop (0 : Nat) (List.map roE l)))))))))))) = List.map enE (deE (List.take (List.length (List.map enE (gnA (deR (List.take (List.length (List.map roE (kpR (deR (List.take (List.length (List.map roE l)) (List.drop (0 : Nat) (List.map roE l))))))) (List.drop (0 : Nat) (List.map roE (kpR (deR (List.take (List.length (List.map roE l)) (List.drop (0 : Nat) (List.map roE l)))))))))))) (List.drop (0 : Nat) (List.map enE (gnA (deR (List.take (List.length (List.map roE (kpR (deR (List.take (List.length (List.map roE l)) (List.drop (0 : Nat) (List.map roE l))))))) (List.drop (0 : Nat) (List.map roE (kpR (deR (List.take (List.length (List.map roE l)) (List.drop (0 : Nat) (List.map roE l)))))))))))))) ∧ List.length (deE (List.take (List.length (List.map enE (gnA (deR (List.take (List.length (List.map roE (kpR (deR (List.take (List.length (List.map roE l)) (List.drop (0 : Nat) (List.map roE l))))))) (List.drop (0 : Nat) (List.map roE (kpR (deR (List.take (List.length (List.map roE l)) (List.drop (0 : Nat) (List.map roE l)))))))))))) (List.drop (0 : Nat) (List.map enE (gnA (deR (List.take (List.length (List.map roE (kpR (deR (List.take (List.length (List.map roE l)) (List.drop (0 : Nat) (List.map roE l))))))) (List.drop (0 : Nat) (List.map roE (kpR (deR (List.take (List.length (List.map roE l)) (List.drop (0 : Nat) (List.map roE l)))))))))))))) ≤ (1000000 : Nat) ∧ List.length (List.map enE (mrE (deE (List.take (List.length (List.map enE (gnA (deR (List.take (List.length (List.map roE (kpR (deR (List.take (List.length (List.map roE l)) (List.drop (0 : Nat) (List.map roE l))))))) (List.drop (0 : Nat) (List.map roE (kpR (deR (List.take (List.length (List.map roE l)) (List.drop (0 : Nat) (List.map roE l)))))))))))) (List.drop (0 : Nat) (List.map enE (gnA (deR (List.take (List.length (List.map roE (kpR (deR (List.take (List.length (List.map roE l)) (List.drop (0 : Nat) (List.map roE l))))))) (List.drop (0 : Nat) (List.map roE (kpR (deR (List.take (List.length (List.map roE l)) (List.drop (0 : Nat) (List.map roE l)))))))))))))))) = List.length es ∧ some (Blk.mk true (42 : TypeId) (6 : Nat) true (List.map enE (mrE (deE (List.take (List.length (List.map enE (gnA (deR (List.take (List.length (List.map roE (kpR (deR (List.take (List.length (List.map roE l)) (List.drop (0 : Nat) (List.map roE l))))))) (List.drop (0 : Nat) (List.map roE (kpR (deR (List.take (List.length (List.map roE l)) (List.drop (0 : Nat) (List.map roE l)))))))))))) (List.drop (0 : Nat) (List.map enE (gnA (deR (List.take (List.length (List.map roE (kpR (deR (List.take (List.length (List.map roE l)) (List.drop (0 : Nat) (List.map roE l))))))) (List.drop (0 : Nat) (List.map roE (kpR (deR (List.take (List.length (List.map roE l)) (List.drop (0 : Nat) (List.map roE l))))))))))))))))) = some (Blk.mk true (42 : TypeId) (6 : Nat) true es)) ∧ ((m == (2 : Int)) = false → es = [])))) := by kernel_rfl

theorem gbuild10Cs_ok : ∀ e ∈ gbuild10Cs, SpecOK Try.prog e.1 e.2 := by
  intro e he
  simp only [gbuild10Cs, List.mem_cons, List.not_mem_nil, or_false] at he
  rcases he with rfl | rfl | rfl
  · exact gentries10_ok
  · exact gkeep9_ok
  · exact gmerge10_ok

theorem gbuild10_ok : SpecOK Try.prog 15 (genSpec [pRo, none] gbuild10F) := by
  refine genSpec_ok (run_ok (l := gbuild10Cs) gbuild10Cs_ok mixed noNG) fun l R hF => ?_
  unfold gbuild10F at hF
  split at hF
  · rename_i r_l m
    obtain ⟨hr_l, hl, hF⟩ := hF
    generalize deR r_l = l at hr_l hl hF
    subst hr_l
    refine ⟨_, hF, trivial, [.fork [] [.fork [] [.fork [] []]]], ?_⟩
    show run gbuild10Cs Try.prog _ [.vsl 0 0 (l.map roE).length, .int .i64 m] [some ⟨false, (pRo.getD (0, 0)).1, (pRo.getD (0, 0)).2, true, (l.map roE)⟩] _ _
    rw [gbuild10_run]
    obtain ⟨hl1, hl2⟩ := hl
    have hk := (kpR_sub l).length_le
    have hg : ∀ m : List Ro, (gnA m).length = m.length := fun m => by unfold gnA; rw [srE_length, List.length_map]
    have hgk := hg (kpR l)
    simp only [whole_row, deR_map, deE_map, beq_iff_eq, beq_eq_false_iff_ne]
    refine ⟨fun h => ?_, fun h => ⟨fun h1 => ?_, fun h1 => ⟨fun h2 => ?_, fun h2 => ?_⟩⟩⟩
    · have e : bdE l m = gnA l := by unfold bdE gnA; rw [if_pos h]
      rw [e]
      exact ⟨by omega, trivial, hl1, rfl, rfl⟩
    · have e : bdE l m = gnA (kpR l) := by unfold bdE gnA; rw [if_neg h, if_pos h1]
      rw [e]
      exact ⟨by omega, trivial, hl2, by omega, trivial, by omega, rfl, rfl⟩
    · have e : bdE l m = mrE (gnA (kpR l)) := by
        unfold bdE gnA
        rw [if_neg h, if_neg h1, if_pos h2]
        unfold mrE
        rw [srE_length, show srE (srE ((kpR l).map rtOE)) = srE ((kpR l).map rtOE) from (srE_uniq (srE_sorted _) (List.Perm.refl _)).symm]
      rw [e]
      exact ⟨by omega, trivial, hl2, by omega, trivial, by omega, by omega, trivial, by omega, rfl, rfl⟩
    · rw [bd_not (by omega)]
      rfl
  · exact hF.elim


theorem gmode10_run (m : Int) (r : AV) : run [] Try.prog 40 [.int .i64 m] [] [.fork [] []] (yields (.v r)) =
    ((Decidable.decide ((0 : Int) ≤ m) = true → AV.bool (Decidable.decide (m ≤ (2 : Int))) = r) ∧ (Decidable.decide ((0 : Int) ≤ m) = false → AV.bool false = r)) := by kernel_rfl

theorem gmode10_ok : SpecOK Try.prog 40 (genSpec [none] gmode10F) := by
  refine genSpec_ok none_ok fun l R hF => ?_
  unfold gmode10F at hF
  split at hF
  · rename_i m
    refine ⟨_, hF, rfl, [.fork [] []], ?_⟩
    show run [] Try.prog _ [.int .i64 m] [] _ _
    rw [gmode10_run]
    refine ⟨fun h => ?_, fun h => ?_⟩
    · rw [show decide (m ≥ 0) = true from h]; rfl
    · rw [show decide (m ≥ 0) = false from h]; rfl
  · exact hF.elim


end Go.Proofs.Ytnjbgbdcbejciaa.L1
end

section
/-
  Layer 10: the program's behind.
-/
namespace Go.Proofs.Ytnjbgbdcbejciaa.L1
open Go.Sx Go.Sx.M

def cmpuF : List Arg → (Res → Prop) → Prop
  | [.v (.w64 a), .v (.w64 b)], R => R (.v (.int .i64 (cmpZ a.toNat b.toNat)))
  | _, _ => False

theorem cmpu_run (a b : BitVec 64) (r : AV) : run [] Try.prog 120 [.w64 a, .w64 b] [] [.br false, .br false, .fork [] [.fork [] []]] (yields (.v r)) =
    ((a != a) = Bool.false ∧ (b != b) = Bool.false ∧ (Decidable.decide (a < b) = Bool.true → Go.Sx.AV.int Go.IntKind.i64 (-1 : Int) = r) ∧ (Decidable.decide (a < b) = Bool.false → (Decidable.decide (b < a) = Bool.true → Go.Sx.AV.int Go.IntKind.i64 (1 : Int) = r) ∧ (Decidable.decide (b < a) = Bool.false → Go.Sx.AV.int Go.IntKind.i64 (0 : Int) = r))) := by kernel_rfl

theorem cmpu_ok : SpecOK Try.prog 120 (genSpec [none, none] cmpuF) := by
  refine genSpec_ok none_ok fun l R hF => ?_
  unfold cmpuF at hF
  split at hF
  · rename_i a b
    refine ⟨_, hF, rfl, [.br false, .br false, .fork [] [.fork [] []]], ?_⟩
    show run [] Try.prog _ [.w64 a, .w64 b] [] _ _
    rw [cmpu_run]
    simp only [decide_eq_true_eq, decide_eq_false_iff_not, BitVec.lt_def]
    refine ⟨by simp, by simp, fun h => ?_, fun h => ⟨fun h2 => ?_, fun h2 => ?_⟩⟩
    all_goals
      congr 1
      unfold cmpZ
    · rw [if_pos (by omega)]
    · rw [if_neg (by omega), if_pos (by omega)]
    · rw [if_neg (by omega), if_neg (by omega)]
  · exact hF.elim


def gbehind10F : List Arg → (Res → Prop) → Prop
  | [.v (.agg [.w64 v, .w64 w, .w64 _, .w64 _, .int .i64 k, .int .i64 _]), .v (.agg [.w64 c, .w64 d, .w64 p, .w64 q, .int .i64 s, .int .i64 _])], R => R (.v (.bool (bhB v w k c d p q s)))
  | _, _ => False

noncomputable def gbehind10Cs : List (FuncId × Sx.Spec) := [(120, genSpec [none, none] cmpuF)]

theorem gbehind10_run (v w m n : BitVec 64) (k a : Int) (c d p q : BitVec 64) (s t : Int) (r : AV) : run gbehind10Cs Try.prog 75 [.agg [.w64 v, .w64 w, .w64 m, .w64 n, .int .i64 k, .int .i64 a], .agg [.w64 c, .w64 d, .w64 p, .w64 q, .int .i64 s, .int .i64 t]] [] [.arr, .split true [.arr, .arr, .loop 3, .fork [] [.loop 3, .fork [] [.fork [] []]]] []] (yields (.v r)) =
    ((Bool.true = Bool.true → ((k != s) = Bool.true → Go.Sx.AV.bool Bool.true = r) ∧ ((k != s) = Bool.false → ((Go.Sx.M.cmpZ (↑(BitVec.toNat v) : Int) (↑(BitVec.toNat (c ||| ~~~p)) : Int) != (0 : Int)) = Bool.true → Go.Sx.AV.bool (Decidable.decide (Go.Sx.M.cmpZ (↑(BitVec.toNat v) : Int) (↑(BitVec.toNat (c ||| ~~~p)) : Int) > (0 : Int))) = r) ∧ ((Go.Sx.M.cmpZ (↑(BitVec.toNat v) : Int) (↑(BitVec.toNat (c ||| ~~~p)) : Int) != (0 : Int)) = Bool.false → ((Go.Sx.M.cmpZ (↑(BitVec.toNat w) : Int) (↑(BitVec.toNat (d ||| ~~~q)) : Int) != (0 : Int)) = Bool.true → Go.Sx.AV.bool (Decidable.decide (Go.Sx.M.cmpZ (↑(BitVec.toNat w) : Int) (↑(BitVec.toNat (d ||| ~~~q)) : Int) > (0 : Int))) = r) ∧ ((Go.Sx.M.cmpZ (↑(BitVec.toNat w) : Int) (↑(BitVec.toNat (d ||| ~~~q)) : Int) != (0 : Int)) = Bool.false → Go.Sx.AV.bool (Decidable.decide ((0 : Int) > (0 : Int))) = r)))) ∧ (Bool.true = Bool.false → False)) := by kernel_rfl

theorem gbehind10Cs_ok : ∀ e ∈ gbehind10Cs, SpecOK Try.prog e.1 e.2 := by
  intro e he
  simp only [gbehind10Cs, List.mem_cons, List.not_mem_nil, or_false] at he
  rcases he with rfl
  · exact cmpu_ok

theorem gbehind10_ok : SpecOK Try.prog 75 (genSpec [none, none] gbehind10F) := by
  refine genSpec_ok (run_ok (l := gbehind10Cs) gbehind10Cs_ok mixed noNG) fun l R hF => ?_
  unfold gbehind10F at hF
  split at hF
  · rename_i v w m n k a c d p q s t
    refine ⟨_, hF, rfl, [.arr, .split true [.arr, .arr, .loop 3, .fork [] [.loop 3, .fork [] [.fork [] []]]] []], ?_⟩
    show run gbehind10Cs Try.prog _ [.agg [.w64 v, .w64 w, .w64 m, .w64 n, .int .i64 k, .int .i64 a], .agg [.w64 c, .w64 d, .w64 p, .w64 q, .int .i64 s, .int .i64 t]] [] _ _
    rw [gbehind10_run]
    have hz : ∀ x y : Int, (cmpZ x y != 0) = true → decide (cmpZ x y > 0) = decide (y < x) ∧ x ≠ y := fun x y h => by
      unfold cmpZ at h ⊢
      by_cases h1 : x < y
      · rw [if_pos h1]
        exact ⟨by rw [decide_eq_false (show ¬ y < x by omega)]; rfl, by omega⟩
      · by_cases h2 : y < x
        · rw [if_neg h1, if_pos h2]
          exact ⟨by rw [decide_eq_true h2]; rfl, by omega⟩
        · rw [if_neg h1, if_neg h2] at h
          simp at h
    have hz0 : ∀ x y : Int, (cmpZ x y != 0) = false → x = y := fun x y h => by
      unfold cmpZ at h
      by_cases h1 : x < y
      · rw [if_pos h1] at h; simp at h
      · by_cases h2 : y < x
        · rw [if_neg h1, if_pos h2] at h; simp at h
        · omega
    have i1 := v.isLt
    have i2 := w.isLt
    have i3 := (c ||| ~~~p).isLt
    have i4 := (d ||| ~~~q).isLt
    refine ⟨fun _ => ⟨fun h => ?_, fun h => ⟨fun h1 => ?_, fun h1 => ⟨fun h2 => ?_, fun h2 => ?_⟩⟩⟩, fun h => by simp at h⟩
    · have : k ≠ s := by simpa using h
      unfold bhB
      rw [decide_eq_true this]; rfl
    all_goals
      have hks : k = s := by simpa using h
      unfold bhB
      rw [decide_eq_false (show ¬ k ≠ s from fun e => e hks), Bool.false_or]
      congr 1
    · obtain ⟨e1, e2⟩ := hz _ _ h1
      rw [e1]
      unfold V
      exact decide_eq_decide.2 (by omega)
    · have e0 := hz0 _ _ h1
      obtain ⟨e1, e2⟩ := hz _ _ h2
      rw [e1]
      unfold V
      exact decide_eq_decide.2 (by omega)
    · have e0 := hz0 _ _ h1
      have e1 := hz0 _ _ h2
      unfold V
      exact (decide_eq_false (by omega)).symm
  · exact hF.elim


end Go.Proofs.Ytnjbgbdcbejciaa.L1
end

section
/-
  Layer 10: the program's Simple, walked.
-/
namespace Go.Proofs.Ytnjbgbdcbejciaa.L1
open Go.Sx Go.Sx.M

/-- The first i, told. -/
def svT (l : List En) (i : Nat) : List En := (l.take i).map tdE
def svS1 (F : List En → List AV) (l : List En) (i : Nat) : St :=
  ⟨[.any, .any, .lit (.bool false), .vsl 1 0 (F (svT l i)).length, .any, .any, .any, .any, .any, .any, .vsl 0 0 (l.map enE).length, .int .i64 (l.map enE).length, .int .i64 i, .any, .any, .any, .any, .any, .any, .any, .any, .any, .any, .any, .any, .any, .any, .any, .any, .any, .any, .any, .any, .any, .any, .any, .any, .any, .any, .any, .any, .any, .any, .any, .any, .any, .any, .any, .any, .any], [some ⟨false, 42, 6, true, l.map enE⟩, some ⟨true, 42, 6, true, F (svT l i)⟩]⟩
def svM0 : Modes := ⟨[0, 0, 1, 1, 0, 0, 0, 0, 0, 0, 1, 1, 2, 0, 0, 0, 0, 0, 0, 0, 0, 0, 0, 0, 0, 0, 0, 0, 0, 0, 0, 0, 0, 0, 0, 0, 0, 0, 0, 0, 0, 0, 0, 0, 0, 0, 0, 0, 0, 0], [], [], [], [(3, 42, 6)]⟩
def svM : Modes := ⟨[0, 0, 1, 1, 0, 0, 0, 0, 0, 0, 1, 1, 1, 0, 0, 0, 0, 0, 0, 0, 0, 0, 0, 0, 0, 0, 0, 0, 0, 0, 0, 0, 0, 0, 0, 0, 0, 0, 0, 0, 0, 0, 0, 0, 0, 0, 0, 0, 0, 0], [], [], [], []⟩
def svM' : Modes := ⟨[0, 0, 1, 1, 0, 0, 0, 0, 0, 0, 0, 0, 0, 0, 0, 0, 0, 0, 0, 0, 0, 0, 0, 0, 0, 0, 0, 0, 0, 0, 0, 0, 0, 0, 0, 0, 0, 0, 0, 0, 0, 0, 0, 0, 0, 0, 0, 0, 0, 0], [], [], [], []⟩
def svS2 (F : List En → List AV) (l : List En) (i : Nat) : St :=
  ⟨[.any, .any, .lit (.bool false), .vsl 1 0 (F (siS l)).length, .any, .any, .any, .any, .any, .any, .any, .any, .any, .any, .any, .any, .any, .any, .any, .any, .any, .any, .any, .any, .vsl 1 0 (F (siS l)).length, .int .i64 (F (siS l)).length, .int .i64 i, .any, .any, .any, .any, .any, .any, .any, .any, .any, .any, .any, .any, .any, .any, .any, .any, .any, .any, .any, .any, .any, .any, .any], [some ⟨false, 42, 6, true, l.map enE⟩, some ⟨true, 42, 6, true, F (siS l)⟩]⟩
def svP0 : Modes := ⟨[0, 0, 1, 1, 0, 0, 0, 0, 0, 0, 0, 0, 0, 0, 0, 0, 0, 0, 0, 0, 0, 0, 0, 0, 1, 1, 2, 0, 0, 0, 0, 0, 0, 0, 0, 0, 0, 0, 0, 0, 0, 0, 0, 0, 0, 0, 0, 0, 0, 0], [], [], [], []⟩
def svP : Modes := ⟨[0, 0, 1, 1, 0, 0, 0, 0, 0, 0, 0, 0, 0, 0, 0, 0, 0, 0, 0, 0, 0, 0, 0, 0, 1, 1, 1, 0, 0, 0, 0, 0, 0, 0, 0, 0, 0, 0, 0, 0, 0, 0, 0, 0, 0, 0, 0, 0, 0, 0], [], [], [], []⟩
def svP' : Modes := ⟨[0, 0, 1, 0, 0, 0, 0, 0, 0, 0, 0, 0, 0, 0, 0, 0, 0, 0, 0, 0, 0, 0, 0, 0, 0, 0, 0, 0, 0, 0, 0, 0, 0, 0, 0, 0, 0, 0, 0, 0, 0, 0, 0, 0, 0, 0, 0, 0, 0, 0], [], [], [], []⟩
def svS3 (F : List En → List AV) (l : List En) (i k : Nat) : St :=
  ⟨[.any, .any, .lit (.bool false), .vsl 1 0 (F (siS l)).length, .any, .any, .any, .ptr 2 0 0 true, .any, .any, .any, .any, .any, .any, .any, .any, .any, .any, .any, .any, .any, .any, .any, .any, .vsl 1 0 (F (siS l)).length, .int .i64 (F (siS l)).length, .int .i64 i, .any, .any, .any, .any, .any, .any, .any, .vsl 1 (0 + (i + 1)) ((F (siS l)).length - (i + 1)), .int .i64 ((F (siS l)).length - (i + 1) : Nat), .int .i64 k, .any, .any, .any, .any, .any, .any, .any, .any, .any, .any, .any, .any, .any], [some ⟨false, 42, 6, true, l.map enE⟩, some ⟨true, 42, 6, true, F (siS l)⟩, some ⟨true, 42, 6, true, [enE (at' (siS l) i)]⟩]⟩
def svQ0 : Modes := ⟨[0, 0, 1, 1, 0, 0, 0, 1, 0, 0, 0, 0, 0, 0, 0, 0, 0, 0, 0, 0, 0, 0, 0, 0, 1, 1, 1, 0, 0, 0, 0, 0, 0, 0, 1, 1, 2, 0, 0, 0, 0, 0, 0, 0, 0, 0, 0, 0, 0, 0], [], [], [], []⟩
def svQ : Modes := ⟨[0, 0, 1, 1, 0, 0, 0, 1, 0, 0, 0, 0, 0, 0, 0, 0, 0, 0, 0, 0, 0, 0, 0, 0, 1, 1, 1, 0, 0, 0, 0, 0, 0, 0, 1, 1, 1, 0, 0, 0, 0, 0, 0, 0, 0, 0, 0, 0, 0, 0], [], [], [], []⟩
def svQ' : Modes := ⟨[0, 0, 1, 1, 0, 0, 0, 0, 0, 0, 0, 0, 0, 0, 0, 0, 0, 0, 0, 0, 0, 0, 0, 0, 1, 1, 1, 0, 0, 0, 0, 0, 0, 0, 0, 0, 0, 0, 0, 0, 0, 0, 0, 0, 0, 0, 0, 0, 0, 0], [], [], [], []⟩
def svHs (F : List En → List AV) (l : List En) : List Hint :=
  [.linv _ 0 (svS1 F l) (fun i => i ≤ l.length) (fun i => l.length + 1 - i) svM0 svM svM' (fun _ => [.nm (F (siS l)),
     .linv _ 0 (svS2 F l) (fun i => SiI (siS l) i) (fun i => (siS l).length + 1 - i) svP0 svP svP' (fun _ => []) fun i =>
      [.fork [.dy, .cell (enE (at' (siS l) i)), .nw, .ix (i + 1), .linv _ 0 (svS3 F l i) (fun k => SiJ (siS l) i k) (fun k => (siS l).length + 1 - k) svQ0 svQ svQ' (fun _ => [.nw]) fun k =>
        [.fork [.dy, .cell (enE (at' (siS l) (i + 1 + k))), .fork [] [.fork [] [.nw]]] []]] []]]) fun i =>
    [.fork [.dy, .cell (enE (at' l i)), .rows (F (svT l (i + 1))), .nw] []]]

noncomputable def svCs : List (FuncId × Sx.Spec) := [(33, genSpec [pEn] esortF), (52, genSpec [none] gtold10F), (75, genSpec [none, none] gbehind10F), (76, genSpec [none, none] wmeetF)]

theorem sv_run (F : List En → List AV) (l : List En) (y : AV) : run svCs Try.prog 39 [.vsl 0 0 (l.map enE).length] [some ⟨false, 42, 6, true, l.map enE⟩] (svHs F l) (yields (.v y)) =
    ((St.mk [.any, .any, AV.lit (Value.bool false), AV.vsl (List.length [some (Blk.mk false (42 : TypeId) 6 true (List.map enE l))]) 0 0, .any, .any, .any, .any, .any, .any, AV.vsl 0 0 (List.length (List.map enE l)), AV.int IntKind.i64 (↑(List.length (List.map enE l)) : Int), AV.int IntKind.i64 0, .any, .any, .any, .any, .any, .any, .any, .any, .any, .any, .any, .any, .any, .any, .any, .any, .any, .any, .any, .any, .any, .any, .any, .any, .any, .any, .any, .any, .any, .any, .any, .any, .any, .any, .any, .any, .any] ([some (Blk.mk false (42 : TypeId) 6 true (List.map enE l))] ++ [some (Blk.mk true (42 : TypeId) 6 true [])]) = svS1 F l 0 ∧ Nat.le 0 (List.length l)) ∧ ∀ (p : Nat), Nat.le p (List.length l) → (Decidable.decide ((↑p : Int) < (↑(List.length (List.map enE l)) : Int)) = true → ((0 : Int) ≤ (↑p : Int) ∧ (↑p : Int) < (↑(List.length (List.map enE l)) : Int)) ∧ Blk.read Proofs.Try.prog (Blk.mk false (42 : TypeId) 6 true (List.map enE l)) 42 ((0 : Nat) + Int.toNat (↑p : Int)) 0 = some (AV.agg [AV.w64 (at' l p).1, AV.w64 (at' l p).2, AV.w64 (at' l p).3, AV.w64 (at' l p).4, AV.int IntKind.i64 (at' l p).5, AV.int IntKind.i64 (at' l p).6]) ∧ ((List.length (F (svT l p)) + (1 : Nat)) * (48 : Nat) ≤ (140737488355328 : Nat) ∧ List.length (F (svT l p)) + (1 : Nat) ≤ (9223372036854775807 : Nat) ∧ (0 : Nat) + (1 : Nat) ≤ List.length [AV.agg [AV.w64 ((at' l p).1 &&& (at' l p).3), AV.w64 ((at' l p).2 &&& (at' l p).4), AV.w64 (at' l p).3, AV.w64 (at' l p).4, AV.int IntKind.i64 (at' l p).5, AV.int IntKind.i64 (at' l p).6]] ∧ List.length (F (svT l p)) ≤ List.length (F (svT l p))) ∧ List.take (List.length (F (svT l p))) (F (svT l p)) ++ [AV.agg [AV.w64 ((at' l p).1 &&& (at' l p).3), AV.w64 ((at' l p).2 &&& (at' l p).4), AV.w64 (at' l p).3, AV.w64 (at' l p).4, AV.int IntKind.i64 (at' l p).5, AV.int IntKind.i64 (at' l p).6]] = F (svT l (p + (1 : Nat))) ∧ inRange IntKind.i64 ((↑p : Int) + (1 : Int)) ∧ ∃ (p' : Nat), St.mk [.any, .any, AV.lit (Value.bool false), AV.vsl ((0 : Nat) + (1 : Nat)) 0 (List.length (F (svT l p)) + (1 : Nat)), .any, .any, .any, .any, .any, .any, AV.vsl 0 0 (List.length (List.map enE l)), AV.int IntKind.i64 (↑(List.length (List.map enE l)) : Int), AV.int IntKind.i64 ((↑p : Int) + (1 : Int)), .any, .any, .any, .any, .any, .any, .any, .any, .any, .any, .any, .any, .any, .any, .any, .any, .any, .any, .any, .any, .any, .any, .any, .any, .any, .any, .any, .any, .any, .any, .any, .any, .any, .any, .any, .any, .any] [some (Blk.mk false (42 : TypeId) 6 true (List.map enE l)), some (Blk.mk true 42 6 true (F (svT l (p + (1 : Nat)))))] = svS1 F l p' ∧ Nat.le p' (List.length l) ∧ List.length l + (1 : Nat) - p' < List.length l + (1 : Nat) - p) ∧ (Decidable.decide ((↑p : Int) < (↑(List.length (List.map enE l)) : Int)) = false → (0 : Nat) + List.length (F (svT l p)) ≤ List.length (F (svT l p)) ∧ List.take (List.length (F (svT l p))) (List.drop 0 (F (svT l p))) = List.map enE (deE (List.take (List.length (F (svT l p))) (List.drop 0 (F (svT l p))))) ∧ List.length (deE (List.take (List.length (F (svT l p))) (List.drop 0 (F (svT l p))))) ≤ (1000000 : Nat) ∧ (List.map enE (srE (deE (List.take (List.length (F (svT l p))) (List.drop 0 (F (svT l p)))))) = F (siS l) ∧ List.length (List.map enE (srE (deE (List.take (List.length (F (svT l p))) (List.drop 0 (F (svT l p))))))) = List.length (F (siS l))) ∧ (St.mk [.any, .any, AV.lit (Value.bool false), AV.vsl ((0 : Nat) + (1 : Nat)) 0 (List.length (F (siS l))), .any, .any, .any, .any, .any, .any, .any, .any, .any, .any, .any, .any, .any, .any, .any, .any, .any, .any, .any, .any, AV.vsl ((0 : Nat) + (1 : Nat)) 0 (List.length (F (siS l))), AV.int IntKind.i64 (↑(List.length (F (siS l))) : Int), AV.int IntKind.i64 0, .any, .any, .any, .any, .any, .any, .any, .any, .any, .any, .any, .any, .any, .any, .any, .any, .any, .any, .any, .any, .any, .any, .any] [some (Blk.mk false (42 : TypeId) 6 true (List.map enE l)), some (Blk.mk true (42 : TypeId) 6 true (F (siS l)))] = svS2 F l 0 ∧ SiI (siS l) 0) ∧ ∀ (p : Nat), SiI (siS l) p → (Decidable.decide ((↑p : Int) < (↑(List.length (F (siS l))) : Int)) = true → ((0 : Int) ≤ (↑p : Int) ∧ (↑p : Int) < (↑(List.length (F (siS l))) : Int)) ∧ Blk.read Proofs.Try.prog (Blk.mk true (42 : TypeId) 6 true (F (siS l))) 42 ((0 : Nat) + Int.toNat (↑p : Int)) 0 = some (AV.agg [AV.w64 (at' (siS l) p).1, AV.w64 (at' (siS l) p).2, AV.w64 (at' (siS l) p).3, AV.w64 (at' (siS l) p).4, AV.int IntKind.i64 (at' (siS l) p).5, AV.int IntKind.i64 (at' (siS l) p).6]) ∧ inRange IntKind.i64 ((↑p : Int) + (1 : Int)) ∧ (↑p : Int) + (1 : Int) = (↑(p + (1 : Nat)) : Int) ∧ p + (1 : Nat) < List.length (F (siS l)) + (1 : Nat) ∧ (St.mk [.any, .any, AV.lit (Value.bool false), AV.vsl ((0 : Nat) + (1 : Nat)) 0 (List.length (F (siS l))), .any, .any, .any, AV.ptr ((0 : Nat) + (1 : Nat) + (1 : Nat)) 0 0 true, .any, .any, .any, .any, .any, .any, .any, .any, .any, .any, .any, .any, .any, .any, .any, .any, AV.vsl ((0 : Nat) + (1 : Nat)) 0 (List.length (F (siS l))), AV.int IntKind.i64 (↑(List.length (F (siS l))) : Int), AV.int IntKind.i64 (↑p : Int), .any, .any, .any, .any, .any, .any, .any, AV.vsl ((0 : Nat) + (1 : Nat)) ((0 : Nat) + (p + (1 : Nat))) (List.length (F (siS l)) - (p + (1 : Nat))), AV.int IntKind.i64 (↑(List.length (F (siS l)) - (p + (1 : Nat))) : Int), AV.int IntKind.i64 0, .any, .any, .any, .any, .any, .any, .any, .any, .any, .any, .any, .any, .any] [some (Blk.mk false (42 : TypeId) 6 true (List.map enE l)), some (Blk.mk true (42 : TypeId) 6 true (F (siS l))), some (Blk.mk true (nat_lit 42) 6 true [AV.agg [AV.w64 (at' (siS l) p).1, AV.w64 (at' (siS l) p).2, AV.w64 (at' (siS l) p).3, AV.w64 (at' (siS l) p).4, AV.int IntKind.i64 (at' (siS l) p).5, AV.int IntKind.i64 (at' (siS l) p).6]])] = svS3 F l p 0 ∧ SiJ (siS l) p 0) ∧ ∀ (p_1 : Nat), SiJ (siS l) p p_1 → (Decidable.decide ((↑p_1 : Int) < (↑(List.length (F (siS l)) - (p + (1 : Nat))) : Int)) = true → ((0 : Int) ≤ (↑p_1 : Int) ∧ (↑p_1 : Int) < (↑(List.length (F (siS l)) - (p + (1 : Nat))) : Int)) ∧ Blk.read Proofs.Try.prog (Blk.mk true (42 : TypeId) 6 true (F (siS l))) 42 ((0 : Nat) + (p + (1 : Nat)) + Int.toNat (↑p_1 : Int)) 0 = some (AV.agg [AV.w64 (at' (siS l) (p + (1 : Nat) + p_1)).1, AV.w64 (at' (siS l) (p + (1 : Nat) + p_1)).2, AV.w64 (at' (siS l) (p + (1 : Nat) + p_1)).3, AV.w64 (at' (siS l) (p + (1 : Nat) + p_1)).4, AV.int IntKind.i64 (at' (siS l) (p + (1 : Nat) + p_1)).5, AV.int IntKind.i64 (at' (siS l) (p + (1 : Nat) + p_1)).6]) ∧ (bhB (at' (siS l) (p + (1 : Nat) + p_1)).1 (at' (siS l) (p + (1 : Nat) + p_1)).2 (at' (siS l) (p + (1 : Nat) + p_1)).5 (at' (siS l) p).1 (at' (siS l) p).2 (at' (siS l) p).3 (at' (siS l) p).4 (at' (siS l) p).5 = true → inRange IntKind.i64 ((↑p : Int) + (1 : Int)) ∧ ∃ (p' : Nat), St.mk [.any, .any, AV.lit (Value.bool false), AV.vsl ((0 : Nat) + (1 : Nat)) 0 (List.length (F (siS l))), .any, .any, .any, .any, .any, .any, .any, .any, .any, .any, .any, .any, .any, .any, .any, .any, .any, .any, .any, .any, AV.vsl ((0 : Nat) + (1 : Nat)) 0 (List.length (F (siS l))), AV.int IntKind.i64 (↑(List.length (F (siS l))) : Int), AV.int IntKind.i64 ((↑p : Int) + (1 : Int)), .any, .any, .any, .any, .any, .any, .any, .any, .any, .any, .any, .any, .any, .any, .any, .any, .any, .any, .any, .any, .any, .any, .any] [some (Blk.mk false (42 : TypeId) 6 true (List.map enE l)), some (Blk.mk true (42 : TypeId) 6 true (F (siS l)))] = svS2 F l p' ∧ SiI (siS l) p' ∧ List.length (siS l) + (1 : Nat) - p' < List.length (siS l) + (1 : Nat) - p) ∧ (bhB (at' (siS l) (p + (1 : Nat) + p_1)).1 (at' (siS l) (p + (1 : Nat) + p_1)).2 (at' (siS l) (p + (1 : Nat) + p_1)).5 (at' (siS l) p).1 (at' (siS l) p).2 (at' (siS l) p).3 (at' (siS l) p).4 (at' (siS l) p).5 = false → (wtB (at' (siS l) p).1 (at' (siS l) p).2 (at' (siS l) p).3 (at' (siS l) p).4 (at' (siS l) (p + (1 : Nat) + p_1)).1 (at' (siS l) (p + (1 : Nat) + p_1)).2 (at' (siS l) (p + (1 : Nat) + p_1)).3 (at' (siS l) (p + (1 : Nat) + p_1)).4 = true → AV.bool false = y) ∧ (wtB (at' (siS l) p).1 (at' (siS l) p).2 (at' (siS l) p).3 (at' (siS l) p).4 (at' (siS l) (p + (1 : Nat) + p_1)).1 (at' (siS l) (p + (1 : Nat) + p_1)).2 (at' (siS l) (p + (1 : Nat) + p_1)).3 (at' (siS l) (p + (1 : Nat) + p_1)).4 = false → inRange IntKind.i64 ((↑p_1 : Int) + (1 : Int)) ∧ ∃ (p' : Nat), St.mk [.any, .any, AV.lit (Value.bool false), AV.vsl ((0 : Nat) + (1 : Nat)) 0 (List.length (F (siS l))), .any, .any, .any, AV.ptr ((0 : Nat) + (1 : Nat) + (1 : Nat)) 0 0 true, .any, .any, .any, .any, .any, .any, .any, .any, .any, .any, .any, .any, .any, .any, .any, .any, AV.vsl ((0 : Nat) + (1 : Nat)) 0 (List.length (F (siS l))), AV.int IntKind.i64 (↑(List.length (F (siS l))) : Int), AV.int IntKind.i64 (↑p : Int), .any, .any, .any, .any, .any, .any, .any, AV.vsl ((0 : Nat) + (1 : Nat)) ((0 : Nat) + (p + (1 : Nat))) (List.length (F (siS l)) - (p + (1 : Nat))), AV.int IntKind.i64 (↑(List.length (F (siS l)) - (p + (1 : Nat))) : Int), AV.int IntKind.i64 ((↑p_1 : Int) + (1 : Int)), .any, .any, .any, .any, .any, .any, .any, .any, .any, .any, .any, .any, .any] [some (Blk.mk false (42 : TypeId) 6 true (List.map enE l)), some (Blk.mk true (42 : TypeId) 6 true (F (siS l))), some (Blk.mk true (42 : TypeId) 6 true [AV.agg [AV.w64 (at' (siS l) p).1, AV.w64 (at' (siS l) p).2, AV.w64 (at' (siS l) p).3, AV.w64 (at' (siS l) p).4, AV.int IntKind.i64 (at' (siS l) p).5, AV.int IntKind.i64 (at' (siS l) p).6]])] = svS3 F l p p' ∧ SiJ (siS l) p p' ∧ List.length (siS l) + (1 : Nat) - p' < List.length (siS l) + (1 : Nat) - p_1))) ∧ (Decidable.decide ((↑p_1 : Int) < (↑(List.length (F (siS l)) - (p + (1 : Nat))) : Int)) = false → inRange IntKind.i64 ((↑p : Int) + (1 : Int)) ∧ ∃ (p' : Nat), St.mk [.any, .any, AV.lit (Value.bool false), AV.vsl ((0 : Nat) + (1 : Nat)) 0 (List.length (F (siS l))), .any, .any, .any, .any, .any, .any, .any, .any, .any, .any, .any, .any, .any, .any, .any, .any, .any, .any, .any, .any, AV.vsl ((0 : Nat) + (1 : Nat)) 0 (List.length (F (siS l))), AV.int IntKind.i64 (↑(List.length (F (siS l))) : Int), AV.int IntKind.i64 ((↑p : Int) + (1 : Int)), .any, .any, .any, .any, .any, .any, .any, .any, .any, .any, .any, .any, .any, .any, .any, .any, .any, .any, .any, .any, .any, .any, .any] [some (Blk.mk false (42 : TypeId) 6 true (List.map enE l)), some (Blk.mk true (42 : TypeId) 6 true (F (siS l)))] = svS2 F l p' ∧ SiI (siS l) p' ∧ List.length (siS l) + (1 : Nat) - p' < List.length (siS l) + (1 : Nat) - p)) ∧ (Decidable.decide ((↑p : Int) < (↑(List.length (F (siS l))) : Int)) = false → AV.bool true = y))) := by kernel_rfl

theorem svCs_ok (hS : SpecOK Try.prog 33 (genSpec [pEn] esortF)) : ∀ e ∈ svCs, SpecOK Try.prog e.1 e.2 := by
  intro e he
  simp only [svCs, List.mem_cons, List.not_mem_nil, or_false] at he
  rcases he with rfl | rfl | rfl | rfl
  · exact hS
  · exact gtold10_ok
  · exact gbehind10_ok
  · exact wmeet_ok

theorem gsimple10_of (hS : SpecOK Try.prog 33 (genSpec [pEn] esortF)) : SpecOK Try.prog 39 (genSpec [pEn] gsimple10F) := by
  refine genSpec_ok (run_ok (l := svCs) (svCs_ok hS) mixed noNG) fun l R hF => ?_
  unfold gsimple10F at hF
  split at hF
  · rename_i r_l
    obtain ⟨hr_l, hl, hF⟩ := hF
    generalize deE r_l = l at hr_l hl hF
    subst hr_l
    refine ⟨_, hF, rfl, (svHs (List.map enE) l), ?_⟩
    show run svCs Try.prog _ [.vsl 0 0 (l.map enE).length] [some ⟨false, 42, 6, true, (l.map enE)⟩] _ _
    rw [sv_run]
    simp only [whole_row, deE_map]
    have hs1 : Sorted (siS l) := srE_sorted _
    have hsn : (siS l).length = l.length := by unfold siS; rw [srE_length, List.length_map]
    have rd : ∀ (m : List En) (b : Bool) (i n : Nat), i < m.length → n = i → Blk.read Try.prog ⟨b, 42, 6, true, m.map enE⟩ 42 n 0 = some (enE (at' m i)) := fun m b i n h e => by
      subst e
      have := read_rows (de := enE) (l := m) (b := b) (ty := 42) (esz := 6) (t := 42) (o := 0) (k := (n : Int)) (by omega) (by rw [List.length_map]; omega) (en_whole _)
      rw [Int.toNat_natCast, Nat.zero_add] at this
      exact this
    have hT : ∀ i, i ≤ l.length → (svT l i).length = i := fun i hi => by unfold svT; rw [List.length_map, List.length_take]; omega
    refine ⟨⟨rfl, Nat.zero_le _⟩, fun i hi => ⟨fun hlt => ?_, fun hge => ?_⟩⟩
    · replace hi : i ≤ l.length := hi
      replace hlt := of_decide_eq_true hlt
      rw [List.length_map] at hlt
      have hTi := hT i hi
      refine ⟨⟨by omega, by rw [List.length_map]; omega⟩, rd l _ i _ (by omega) (by omega), ⟨by rw [List.length_map]; omega, by rw [List.length_map]; omega, Nat.le_refl _, Nat.le_refl _⟩, ?_, inR (by omega) (by omega), i + 1, ?_, (by omega : i + 1 ≤ l.length), by omega⟩
      · rw [List.take_length]
        unfold svT
        rw [take_one (show i < l.length by omega), List.map_append, List.map_append]
        rfl
      · unfold svS1
        rw [show ((svT l (i + 1)).map enE).length = ((svT l i).map enE).length + 1 by rw [List.length_map, List.length_map, hTi, hT (i + 1) (by omega)]]
        rfl
    · replace hi : i ≤ l.length := hi
      replace hge := of_decide_eq_false hge
      rw [List.length_map] at hge
      have hil : i = l.length := by omega
      subst hil
      have hTl := hT l.length (Nat.le_refl _)
      have hTT : svT l l.length = l.map tdE := by unfold svT; rw [List.take_length]
      refine ⟨by omega, trivial, by omega, ⟨by rw [hTT]; rfl, by rw [hTT]; rfl⟩, ⟨rfl, ⟨Nat.zero_le _, fun a ha => by omega⟩⟩, fun p hp => ⟨fun hlt => ?_, fun hge => ?_⟩⟩
      · replace hlt := of_decide_eq_true hlt
        rw [List.length_map] at hlt
        have hpl : p < (siS l).length := by omega
        have hp1 : inRange .i64 ((p : Int) + 1) := inR (by omega) (by omega)
        refine ⟨⟨by omega, by rw [List.length_map]; omega⟩, rd _ _ p _ hpl (by omega), hp1, by omega, by rw [List.length_map]; omega, ⟨rfl, ⟨hpl, by omega, hp, fun b h1 h2 => by omega⟩⟩, fun k hk => ⟨fun hlt2 => ?_, fun hge2 => ?_⟩⟩
        · replace hlt2 := of_decide_eq_true hlt2
          rw [List.length_map] at hlt2
          have hkl : p + 1 + k < (siS l).length := by omega
          refine ⟨⟨by omega, by rw [List.length_map]; omega⟩, rd _ _ (p + 1 + k) _ hkl (by omega), fun hb => ⟨hp1, p + 1, rfl, hk.far hs1 siS_td hkl hb, by omega⟩, fun hb => ⟨fun hm => ?_, fun hm => ⟨inR (by omega) (by omega), k + 1, rfl, hk.next hkl hm, by omega⟩⟩⟩
          rw [← siE_siS]
          have hbl : (at' (siS l) (p + 1 + k)).len = (at' (siS l) p).len := by
            unfold bhB at hb
            rw [Bool.or_eq_false_iff] at hb
            simpa using hb.1
          rw [hk.met hkl hbl hm]
        · replace hge2 := of_decide_eq_false hge2
          rw [List.length_map] at hge2
          have := hk.le
          exact ⟨hp1, p + 1, rfl, hk.done (by omega), by omega⟩
      · replace hge := of_decide_eq_false hge
        rw [List.length_map] at hge
        have := hp.le
        have e : p = (siS l).length := by omega
        rw [e] at hp
        rw [← siE_siS, hp.all]
  · exact hF.elim

end Go.Proofs.Ytnjbgbdcbejciaa.L1
end

section
/-
  Layer 10: what the document fixes of two halves holds (awake); the laws' calls.
-/
namespace Go.Proofs.Ytnjbgbdcbejciaa.L1
open Go.Sx Go.Sx.M

theorem gsimple10_ok : SpecOK Try.prog 39 (genSpec [pEn] gsimple10F) := gsimple10_of esort_ok

theorem awake10Cs_ok : ∀ e ∈ awake10Cs, SpecOK Try.prog e.1 e.2 := by
  intro e he
  simp only [awake10Cs, List.mem_cons, List.not_mem_nil, or_false] at he
  rcases he with rfl | rfl | rfl | rfl | rfl
  · exact pmake_ok
  · exact gbuild10_ok
  · exact wfree_ok
  · exact gsimple10_ok
  · exact gmode10_ok

theorem l10Cs_ok : ∀ e ∈ l10Cs, SpecOK Try.prog e.1 e.2 := by
  unfold l10Cs
  refine List.forall_mem_cons.2 ⟨awake10_of awake10Cs_ok, ?_⟩
  refine List.forall_mem_cons.2 ⟨of5_ok, ?_⟩
  refine List.forall_mem_cons.2 ⟨gmerge10_ok, ?_⟩
  refine List.forall_mem_cons.2 ⟨gsimple10_ok, ?_⟩
  refine List.forall_mem_cons.2 ⟨gbuild10_ok, ?_⟩
  refine List.forall_mem_cons.2 ⟨gmode10_ok, ?_⟩
  refine List.forall_mem_cons.2 ⟨rsimple10_ok, ?_⟩
  refine List.forall_mem_cons.2 ⟨etell_ok, ?_⟩
  refine List.forall_mem_cons.2 ⟨rtell_ok, ?_⟩
  refine List.forall_mem_cons.2 ⟨rordered_ok, ?_⟩
  refine List.forall_mem_cons.2 ⟨table9_ok, ?_⟩
  refine List.forall_mem_cons.2 ⟨of6_ok, ?_⟩
  refine List.forall_mem_cons.2 ⟨rrtell_ok, ?_⟩
  refine List.forall_mem_cons.2 ⟨wcovers_ok, ?_⟩
  exact fun e he => by cases he

end Go.Proofs.Ytnjbgbdcbejciaa.L1
end

