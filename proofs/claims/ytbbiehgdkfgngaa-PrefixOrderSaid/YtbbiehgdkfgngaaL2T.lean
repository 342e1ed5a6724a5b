/-
  The laws of layer 2, first part: PrefixRight, PrefixCovers, PrefixOrder.
-/
import Derived.Test.YtbbiehgdkfgngaaL2Awake
import Derived.Test.YtbbiehgdkfgngaaL2M
import Derived.Test.YtbbiehgdkfgngaaL2S
import Derived.Test.YtbbiehgdkfgngaaL2FRight
import Derived.Test.YtbbiehgdkfgngaaL2FCovers
import Derived.Test.YtbbiehgdkfgngaaL2FOrder
namespace Go.Proofs.Ytbbiehgdkfgngaa.L1
open Go.Sx Go.Sx.M

noncomputable def l2tCs : List (FuncId × Sx.Spec) := [(42, awakeSpec), (40, genSpec [none, none] makeF), (41, genSpec [none, none] makeF), (44, genSpec [none, none] coversF), (43, genSpec [none, none] coversF),
  (35, genSpec [none, none] rightF), (46, genSpec [none, none] matchF), (36, genSpec [none, none] rightF), (47, genSpec [none, none] matchF),
  (39, genSpec [none, none] ofF), (48, genSpec [none, none] cmppF), (49, genSpec [none, none] cmppF)]

theorem right_law_run (w : Int) (a b : BitVec 64) (n : Int) : run l2tCs Try.prog 12 [.int .i64 w, .agg [.w64 a, .w64 b, .int .i64 n]] [] [.fork [.br true, .br true, .br true, .br true, .br true] [.br true, .br false, .br true, .br true, .br true]] isTrue =
    (((w == (32 : Int)) = Bool.true → (Go.Proofs.Ytbbiehgdkfgngaa.L1.rightB w a b n == Go.Proofs.Ytbbiehgdkfgngaa.L1.rightB w a b n) = Bool.true ∧ (w == (32 : Int)) = Bool.true ∧ (Bool.true == Bool.true) = Bool.true ∧ (Go.Proofs.Ytbbiehgdkfgngaa.L1.ofB w a b == Go.Proofs.Ytbbiehgdkfgngaa.L1.rightB w a b w) = Bool.true ∧ (a &&& Go.Proofs.Ytbbiehgdkfgngaa.L1.mkW n == a &&& Go.Proofs.Ytbbiehgdkfgngaa.L1.mkW n && b &&& Go.Proofs.Ytbbiehgdkfgngaa.L1.mkW (n - (64 : Int)) == b &&& Go.Proofs.Ytbbiehgdkfgngaa.L1.mkW (n - (64 : Int)) && Go.Proofs.Ytbbiehgdkfgngaa.L1.clamp n == Go.Proofs.Ytbbiehgdkfgngaa.L1.clamp n) = Bool.true ∧ True ∧ Bool.true = Bool.true) ∧ ((w == (32 : Int)) = Bool.false → (Go.Proofs.Ytbbiehgdkfgngaa.L1.rightB w a b n == Go.Proofs.Ytbbiehgdkfgngaa.L1.rightB w a b n) = Bool.true ∧ (w == (32 : Int)) = Bool.false ∧ ((w == (128 : Int)) == (w == (128 : Int))) = Bool.true ∧ (Go.Proofs.Ytbbiehgdkfgngaa.L1.ofB w a b == Go.Proofs.Ytbbiehgdkfgngaa.L1.rightB w a b w) = Bool.true ∧ (a &&& Go.Proofs.Ytbbiehgdkfgngaa.L1.mkW n == a &&& Go.Proofs.Ytbbiehgdkfgngaa.L1.mkW n && b &&& Go.Proofs.Ytbbiehgdkfgngaa.L1.mkW (n - (64 : Int)) == b &&& Go.Proofs.Ytbbiehgdkfgngaa.L1.mkW (n - (64 : Int)) && Go.Proofs.Ytbbiehgdkfgngaa.L1.clamp n == Go.Proofs.Ytbbiehgdkfgngaa.L1.clamp n) = Bool.true ∧ True ∧ Bool.true = Bool.true)) := by kernel_rfl

theorem covers_law_run (a b : BitVec 64) (n : Int) (c d : BitVec 64) (m : Int) : run l2tCs Try.prog 13 [.agg [.w64 a, .w64 b, .int .i64 n], .agg [.w64 c, .w64 d, .int .i64 m]] [] [.br true, .br true, .fork [.br true, .br true, .br true] [.br false, .br true, .br true]] isTrue =
    (((Decidable.decide (n ≤ m) && Go.Proofs.Ytbbiehgdkfgngaa.L1.matchB a b n c d) == (Decidable.decide (n ≤ m) && Go.Proofs.Ytbbiehgdkfgngaa.L1.matchB a b n c d)) = Bool.true ∧ ((Decidable.decide (m ≤ n) && Go.Proofs.Ytbbiehgdkfgngaa.L1.matchB c d m a b) == (Decidable.decide (m ≤ n) && Go.Proofs.Ytbbiehgdkfgngaa.L1.matchB c d m a b)) = Bool.true ∧ ((!(Decidable.decide (n ≤ m) && Go.Proofs.Ytbbiehgdkfgngaa.L1.matchB a b n c d)) = Bool.true → (!(Decidable.decide (n ≤ m) && Go.Proofs.Ytbbiehgdkfgngaa.L1.matchB a b n c d)) = Bool.true ∧ ((!(Decidable.decide (m ≤ n) && Go.Proofs.Ytbbiehgdkfgngaa.L1.matchB c d m a b)) == !(Decidable.decide (m ≤ n) && Go.Proofs.Ytbbiehgdkfgngaa.L1.matchB c d m a b)) = Bool.true ∧ (Go.Proofs.Ytbbiehgdkfgngaa.L1.matchB a b n c d == Go.Proofs.Ytbbiehgdkfgngaa.L1.matchB a b n c d) = Bool.true ∧ True ∧ Bool.true = Bool.true) ∧ ((!(Decidable.decide (n ≤ m) && Go.Proofs.Ytbbiehgdkfgngaa.L1.matchB a b n c d)) = Bool.false → (!(Decidable.decide (n ≤ m) && Go.Proofs.Ytbbiehgdkfgngaa.L1.matchB a b n c d)) = Bool.false ∧ (Bool.false == Bool.false) = Bool.true ∧ (Go.Proofs.Ytbbiehgdkfgngaa.L1.matchB a b n c d == Go.Proofs.Ytbbiehgdkfgngaa.L1.matchB a b n c d) = Bool.true ∧ True ∧ Bool.true = Bool.true)) := by kernel_rfl

theorem order_law_run (a b : BitVec 64) (n : Int) (c d : BitVec 64) (m : Int) : run l2tCs Try.prog 14 [.agg [.w64 a, .w64 b, .int .i64 n], .agg [.w64 c, .w64 d, .int .i64 m]] [] [.br false, .br false, .fork [] [.fork [] [.fork [] [.br true]]]] isTrue =
    ((Go.Proofs.Ytbbiehgdkfgngaa.L1.cmpP a b n c d m != Go.Proofs.Ytbbiehgdkfgngaa.L1.cmpP a b n c d m) = Bool.false ∧ (Go.Proofs.Ytbbiehgdkfgngaa.L1.cmpP a b n c d m != Go.IntKind.wrap Go.IntKind.i64 ((0 : Int) - Go.Proofs.Ytbbiehgdkfgngaa.L1.cmpP c d m a b n)) = Bool.false ∧ ((!Go.Proofs.Ytbbiehgdkfgngaa.L1.rightB (128 : Int) a b n) = Bool.true → True ∧ Bool.true = Bool.true) ∧ ((!Go.Proofs.Ytbbiehgdkfgngaa.L1.rightB (128 : Int) a b n) = Bool.false → ((!Go.Proofs.Ytbbiehgdkfgngaa.L1.rightB (128 : Int) c d m) = Bool.true → True ∧ Bool.true = Bool.true) ∧ ((!Go.Proofs.Ytbbiehgdkfgngaa.L1.rightB (128 : Int) c d m) = Bool.false → ((!(Decidable.decide (n ≤ m) && Go.Proofs.Ytbbiehgdkfgngaa.L1.matchB a b n c d)) = Bool.true → True ∧ Bool.true = Bool.true) ∧ ((!(Decidable.decide (n ≤ m) && Go.Proofs.Ytbbiehgdkfgngaa.L1.matchB a b n c d)) = Bool.false → Decidable.decide (Go.Proofs.Ytbbiehgdkfgngaa.L1.cmpP a b n c d m ≤ (0 : Int)) = Bool.true ∧ True ∧ Bool.true = Bool.true)))) := by kernel_rfl

theorem l2tCs_ok : ∀ e ∈ l2tCs, SpecOK Try.prog e.1 e.2 := by
  intro e he
  simp only [l2tCs, List.mem_cons, List.not_mem_nil, or_false] at he
  rcases he with rfl | rfl | rfl | rfl | rfl | rfl | rfl | rfl | rfl | rfl | rfl | rfl
  · exact awake2
  · exact pmake_ok
  · exact rmake_ok
  · exact pcovers_ok
  · exact rcovers_ok
  · exact pright_ok
  · exact pmatch_ok
  · exact rright_ok
  · exact rmatch_ok
  · exact of_ok
  · exact cmpp_ok
  · exact rcmp_ok

theorem of_right (w : Int) (a b : BitVec 64) : ofB w a b = rightB w a b w := by
  rw [Bool.eq_iff_iff, of_iff, right_iff]
  exact ⟨fun ⟨h1, h2⟩ => ⟨h1, by omega, by omega, h2⟩, fun ⟨h1, _, _, h2⟩ => ⟨h1, h2⟩⟩

theorem right_law (w : Int) (a b : BitVec 64) (n : Int) : ∃ hs, run l2tCs Try.prog 12 [.int .i64 w, .agg [.w64 a, .w64 b, .int .i64 n]] [] hs isTrue := by
  refine ⟨[.fork [.br true, .br true, .br true, .br true, .br true] [.br true, .br false, .br true, .br true, .br true]], ?_⟩
  rw [right_law_run, of_right]
  exact ⟨fun h => ⟨by simp, h, by simp, by simp, by simp, trivial, rfl⟩, fun h => ⟨by simp, h, by simp, by simp, by simp, trivial, rfl⟩⟩

theorem covers_law (a b : BitVec 64) (n : Int) (c d : BitVec 64) (m : Int) : ∃ hs, run l2tCs Try.prog 13 [.agg [.w64 a, .w64 b, .int .i64 n], .agg [.w64 c, .w64 d, .int .i64 m]] [] hs isTrue := by
  refine ⟨[.br true, .br true, .fork [.br true, .br true, .br true] [.br false, .br true, .br true]], ?_⟩
  rw [covers_law_run]
  exact ⟨by simp, by simp, fun h => ⟨h, by simp, by simp, trivial, rfl⟩, fun h => ⟨h, by simp, by simp, trivial, rfl⟩⟩

theorem cmpV_anti (m n : Nat) : cmpV m n = 0 - cmpV n m := by
  unfold cmpV
  rcases Nat.lt_trichotomy m n with h | h | h
  · rw [if_neg (by omega), if_pos h, if_neg (by omega), if_neg (by omega)]; rfl
  · rw [if_pos h, if_pos h.symm]; rfl
  · rw [if_neg (by omega), if_neg (by omega), if_neg (by omega), if_pos h]; rfl

theorem cmpI_anti (m n : Int) : cmpI m n = 0 - cmpI n m := by
  unfold cmpI
  rcases Int.lt_trichotomy m n with h | h | h
  · rw [if_neg (by omega), if_pos h, if_neg (by omega), if_neg (by omega)]; rfl
  · rw [if_pos h, if_pos h.symm]; rfl
  · rw [if_neg (by omega), if_neg (by omega), if_neg (by omega), if_pos h]; rfl

theorem cmpP_anti (a b : BitVec 64) (n : Int) (c d : BitVec 64) (m : Int) : cmpP a b n c d m = 0 - cmpP c d m a b n := by
  unfold cmpP orI
  have h := cmpV_anti (V a b) (V c d)
  by_cases h0 : cmpV (V c d) (V a b) = 0
  · rw [if_pos h0, if_pos (by omega), cmpI_anti]
  · rw [if_neg h0, if_neg (by omega), h]

theorem cmpP_small (a b : BitVec 64) (n : Int) (c d : BitVec 64) (m : Int) : -1 ≤ cmpP a b n c d m ∧ cmpP a b n c d m ≤ 1 := by
  have h1 : -1 ≤ cmpV (V a b) (V c d) ∧ cmpV (V a b) (V c d) ≤ 1 := by unfold cmpV; split <;> (try split) <;> omega
  have h2 : -1 ≤ cmpI n m ∧ cmpI n m ≤ 1 := by unfold cmpI; split <;> (try split) <;> omega
  unfold cmpP orI
  split <;> omega

theorem order_law2 (a b : BitVec 64) (n : Int) (c d : BitVec 64) (m : Int) : ∃ hs, run l2tCs Try.prog 14 [.agg [.w64 a, .w64 b, .int .i64 n], .agg [.w64 c, .w64 d, .int .i64 m]] [] hs isTrue := by
  refine ⟨[.br false, .br false, .fork [] [.fork [] [.fork [] [.br true]]]], ?_⟩
  rw [order_law_run]
  refine ⟨by simp, ?_, fun _ => ⟨trivial, rfl⟩, fun h1 => ⟨fun _ => ⟨trivial, rfl⟩, fun h2 => ⟨fun _ => ⟨trivial, rfl⟩, fun h3 => ⟨?_, trivial, rfl⟩⟩⟩⟩
  · have := cmpP_small c d m a b n
    rw [wrap_inRange (inR (by omega) (by omega)), ← cmpP_anti]
    simp
  · obtain ⟨_, n0, n1, hp⟩ := right_iff.1 (show rightB 128 a b n = true by simpa using h1)
    rw [Bool.not_eq_false', Bool.and_eq_true, decide_eq_true_eq] at h3
    have hv : V a b ≤ V c d := V_sub fun i hi hb => by
      by_cases hn : (i : Int) < n
      · rw [← match_iff.1 h3.2 i hi hn]; exact hb
      · rw [hp i hi (by omega)] at hb; cases hb
    rw [decide_eq_true_eq]
    have hc := cmpV_le.2 hv
    unfold cmpP orI
    split
    · unfold cmpI; split
      · omega
      · rw [if_pos (by omega)]; omega
    · exact hc

theorem l2t_any : ∃ C : Sx.Call, COK Try.prog false C ∧ (∀ (w : Int) (a b : BitVec 64) (n : Int), ∃ hs, C 12 [.int .i64 w, .agg [.w64 a, .w64 b, .int .i64 n]] [] hs isTrue) ∧
    (∀ (a b : BitVec 64) (n : Int) (c d : BitVec 64) (m : Int), ∃ hs, C 13 [.agg [.w64 a, .w64 b, .int .i64 n], .agg [.w64 c, .w64 d, .int .i64 m]] [] hs isTrue) ∧
    ∀ (a b : BitVec 64) (n : Int) (c d : BitVec 64) (m : Int), ∃ hs, C 14 [.agg [.w64 a, .w64 b, .int .i64 n], .agg [.w64 c, .w64 d, .int .i64 m]] [] hs isTrue :=
  ⟨run l2tCs Try.prog, run_ok (l := l2tCs) l2tCs_ok mixed noNG, right_law, covers_law, order_law2⟩

theorem right_holds : Rows.PrefixRightSaid :=
  prefixRight_of fun a b0 b1 b2 w => by
    obtain ⟨C, hC, h, _⟩ := l2t_any
    obtain ⟨hs, h⟩ := h a b0 b1 b2
    exact prefixRight_call hC a b0 b1 b2 h w

theorem covers_holds : Rows.PrefixCoversSaid :=
  prefixCovers_of fun a0 a1 a2 b0 b1 b2 w => by
    obtain ⟨C, hC, _, h, _⟩ := l2t_any
    obtain ⟨hs, h⟩ := h a0 a1 a2 b0 b1 b2
    exact prefixCovers_call hC a0 a1 a2 b0 b1 b2 h w

theorem porder_holds : Rows.PrefixOrderSaid :=
  prefixOrder_of fun a0 a1 a2 b0 b1 b2 w => by
    obtain ⟨C, hC, _, _, h⟩ := l2t_any
    obtain ⟨hs, h⟩ := h a0 a1 a2 b0 b1 b2
    exact prefixOrder_call hC a0 a1 a2 b0 b1 b2 h w

#print axioms right_holds
#print axioms covers_holds
#print axioms porder_holds
end Go.Proofs.Ytbbiehgdkfgngaa.L1
