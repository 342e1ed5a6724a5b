/-
  The laws AddrOrder, AddrCuts and AddrNexts: how many bits two addresses have in common, which is the greater one, and which comes next.
-/
import Derived.Test.YtbbiehgdkfgngaaL1FOrder
import Derived.Test.YtbbiehgdkfgngaaL1FCuts
import Derived.Test.YtbbiehgdkfgngaaL1FNexts
import Derived.Test.YtbbiehgdkfgngaaL1Mask
import Derived.Test.YtbbiehgdkfgngaaL1Cmp
import Derived.Test.YtbbiehgdkfgngaaL1Next
namespace Go.Proofs.Ytbbiehgdkfgngaa.L1
open Go.Sx Go.Sx.M

noncomputable def orderCs : List (FuncId × Sx.Spec) := [(21, awakeSpec), (28, genSpec [none, none] comF), (29, genSpec [none, none] comF),
  (30, genSpec [none, none] cmpF), (31, genSpec [none, none] cmpF), (32, genSpec [none] nextF), (33, genSpec [none] nextF),
  (26, genSpec [none] maskF), (27, genSpec [none, none] cutF)]

theorem orderCs_ok : ∀ e ∈ orderCs, SpecOK Try.prog e.1 e.2 := by
  intro e he
  simp only [orderCs, List.mem_cons, List.not_mem_nil, or_false] at he
  rcases he with rfl | rfl | rfl | rfl | rfl | rfl | rfl | rfl | rfl
  · exact awake
  · exact acom_ok
  · exact com_ok
  · exact acmp_ok
  · exact cmp_ok
  · exact anext_ok
  · exact next_ok
  · exact amask_ok
  · exact cut_ok

theorem order_run (a b c d : BitVec 64) : run orderCs Try.prog 6 [.agg [.w64 a, .w64 b], .agg [.w64 c, .w64 d]] [] [.br true, .br true, .br true] isTrue =
    (((↑(Go.Sx.M.com (Go.Sx.M.bitAt a b) (Go.Sx.M.bitAt c d)) : Int) == (↑(Go.Sx.M.com (Go.Sx.M.bitAt a b) (Go.Sx.M.bitAt c d)) : Int)) = Bool.true ∧ (Go.Sx.M.cmpV (Go.Sx.M.V a b) (Go.Sx.M.V c d) == Go.Sx.M.cmpV (Go.Sx.M.V a b) (Go.Sx.M.V c d)) = Bool.true ∧ (Go.Sx.M.hiN (Go.Sx.M.V a b + (1 : Nat)) == Go.Sx.M.hiN (Go.Sx.M.V a b + (1 : Nat)) && Go.Sx.M.loN (Go.Sx.M.V a b + (1 : Nat)) == Go.Sx.M.loN (Go.Sx.M.V a b + (1 : Nat))) = Bool.true ∧ True ∧ Bool.true = Bool.true) := by kernel_rfl

theorem cuts_run (a b c d : BitVec 64) : run orderCs Try.prog 8 [.agg [.w64 a, .w64 b], .agg [.w64 c, .w64 d]] [] [.br false, .br true, .fork [] [.nw, .nw, .br true]] isTrue =
    ((!(a &&& Go.Proofs.Ytbbiehgdkfgngaa.L1.mkW (↑(Go.Sx.M.com (Go.Sx.M.bitAt a b) (Go.Sx.M.bitAt c d)) : Int) == c &&& Go.Proofs.Ytbbiehgdkfgngaa.L1.mkW (↑(Go.Sx.M.com (Go.Sx.M.bitAt a b) (Go.Sx.M.bitAt c d)) : Int) && b &&& Go.Proofs.Ytbbiehgdkfgngaa.L1.mkW ((↑(Go.Sx.M.com (Go.Sx.M.bitAt a b) (Go.Sx.M.bitAt c d)) : Int) - (64 : Int)) == d &&& Go.Proofs.Ytbbiehgdkfgngaa.L1.mkW ((↑(Go.Sx.M.com (Go.Sx.M.bitAt a b) (Go.Sx.M.bitAt c d)) : Int) - (64 : Int)))) = Bool.false ∧ (((↑(Go.Sx.M.com (Go.Sx.M.bitAt a b) (Go.Sx.M.bitAt c d)) : Int) == (128 : Int)) == (a == c && b == d)) = Bool.true ∧ (((↑(Go.Sx.M.com (Go.Sx.M.bitAt a b) (Go.Sx.M.bitAt c d)) : Int) == (128 : Int)) = Bool.true → True ∧ Bool.true = Bool.true) ∧ (((↑(Go.Sx.M.com (Go.Sx.M.bitAt a b) (Go.Sx.M.bitAt c d)) : Int) == (128 : Int)) = Bool.false → Go.Sx.inRange Go.IntKind.i64 ((↑(Go.Sx.M.com (Go.Sx.M.bitAt a b) (Go.Sx.M.bitAt c d)) : Int) + (1 : Int)) ∧ Go.Sx.inRange Go.IntKind.i64 ((↑(Go.Sx.M.com (Go.Sx.M.bitAt a b) (Go.Sx.M.bitAt c d)) : Int) + (1 : Int)) ∧ (!(a &&& Go.Proofs.Ytbbiehgdkfgngaa.L1.mkW ((↑(Go.Sx.M.com (Go.Sx.M.bitAt a b) (Go.Sx.M.bitAt c d)) : Int) + (1 : Int)) == c &&& Go.Proofs.Ytbbiehgdkfgngaa.L1.mkW ((↑(Go.Sx.M.com (Go.Sx.M.bitAt a b) (Go.Sx.M.bitAt c d)) : Int) + (1 : Int)) && b &&& Go.Proofs.Ytbbiehgdkfgngaa.L1.mkW ((↑(Go.Sx.M.com (Go.Sx.M.bitAt a b) (Go.Sx.M.bitAt c d)) : Int) + (1 : Int) - (64 : Int)) == d &&& Go.Proofs.Ytbbiehgdkfgngaa.L1.mkW ((↑(Go.Sx.M.com (Go.Sx.M.bitAt a b) (Go.Sx.M.bitAt c d)) : Int) + (1 : Int) - (64 : Int)))) = Bool.true ∧ True ∧ Bool.true = Bool.true)) := by kernel_rfl

theorem nexts_run (a b c d : BitVec 64) : run orderCs Try.prog 10 [.agg [.w64 a, .w64 b], .agg [.w64 c, .w64 d]] [] [.fork [.br true] [.br true, .fork [.br true] [.br true, .br true]]] isTrue =
    ((Go.Sx.andAll [a == Go.Proofs.Ytbbiehgdkfgngaa.L1.mkW (128 : Int), b == Go.Proofs.Ytbbiehgdkfgngaa.L1.mkW ((128 : Int) - (64 : Int))] = Bool.true → (Go.Sx.M.hiN (Go.Sx.M.V a b + (1 : Nat)) == BitVec.ofInt (64 : Nat) (0 : Int) && Go.Sx.M.loN (Go.Sx.M.V a b + (1 : Nat)) == BitVec.ofInt (64 : Nat) (0 : Int)) = Bool.true ∧ True ∧ Bool.true = Bool.true) ∧ (Go.Sx.andAll [a == Go.Proofs.Ytbbiehgdkfgngaa.L1.mkW (128 : Int), b == Go.Proofs.Ytbbiehgdkfgngaa.L1.mkW ((128 : Int) - (64 : Int))] = Bool.false → (Go.Sx.M.cmpV (Go.Sx.M.V a b) (Go.Sx.M.V (Go.Sx.M.hiN (Go.Sx.M.V a b + (1 : Nat))) (Go.Sx.M.loN (Go.Sx.M.V a b + (1 : Nat)))) == (-1 : Int)) = Bool.true ∧ (Decidable.decide (Go.Sx.M.cmpV (Go.Sx.M.V c d) (Go.Sx.M.V a b) ≤ (0 : Int)) = Bool.true → True ∧ Bool.true = Bool.true) ∧ (Decidable.decide (Go.Sx.M.cmpV (Go.Sx.M.V c d) (Go.Sx.M.V a b) ≤ (0 : Int)) = Bool.false → Decidable.decide (Go.Sx.M.cmpV (Go.Sx.M.V c d) (Go.Sx.M.V (Go.Sx.M.hiN (Go.Sx.M.V a b + (1 : Nat))) (Go.Sx.M.loN (Go.Sx.M.V a b + (1 : Nat)))) ≥ (0 : Int)) = Bool.true ∧ True ∧ Bool.true = Bool.true))) := by kernel_rfl

theorem bitAt_cut (a b : BitVec 64) (n : Int) {i : Nat} (hi : i < 128) : bitAt (a &&& mkW n) (b &&& mkW (n - 64)) i = (bitAt a b i && decide ((i : Int) < n)) := by
  rw [← bitAt_mk n hi]
  unfold bitAt
  split <;> rw [BitVec.getMsbD_and]

theorem cut_iff {a b c d : BitVec 64} {n : Int} : (a &&& mkW n == c &&& mkW n && b &&& mkW (n - 64) == d &&& mkW (n - 64)) = true ↔ ∀ i : Nat, i < 128 → (i : Int) < n → bitAt a b i = bitAt c d i := by
  rw [Bool.and_eq_true, beq_iff_eq, beq_iff_eq]
  refine ⟨fun ⟨h1, h2⟩ i hi hn => ?_, fun h => bitAt_eq fun i hi => ?_⟩
  · have e1 := bitAt_cut a b n hi
    have e2 := bitAt_cut c d n hi
    rw [decide_eq_true hn, Bool.and_true] at e1 e2
    rw [← e1, ← e2, h1, h2]
  · rw [bitAt_cut a b n hi, bitAt_cut c d n hi]
    by_cases hn : (i : Int) < n
    · rw [h i hi hn]
    · rw [decide_eq_false hn, Bool.and_false, Bool.and_false]

theorem order_law (a b c d : BitVec 64) : ∃ hs, run orderCs Try.prog 6 [.agg [.w64 a, .w64 b], .agg [.w64 c, .w64 d]] [] hs isTrue := by
  refine ⟨[.br true, .br true, .br true], ?_⟩
  rw [order_run]
  exact ⟨by simp, by simp, by simp, trivial, rfl⟩

theorem cuts_law (a b c d : BitVec 64) : ∃ hs, run orderCs Try.prog 8 [.agg [.w64 a, .w64 b], .agg [.w64 c, .w64 d]] [] hs isTrue := by
  refine ⟨[.br false, .br true, .fork [] [.nw, .nw, .br true]], ?_⟩
  rw [cuts_run]
  have hs := com_spec (bitAt a b) (bitAt c d)
  have he := com_eq (a := a) (b := b) (c := c) (d := d)
  generalize com (bitAt a b) (bitAt c d) = n at hs he
  have hle := hs.le
  refine ⟨?_, ?_, fun _ => ⟨trivial, rfl⟩, fun h => ⟨inR (by omega) (by omega), inR (by omega) (by omega), ?_, trivial, rfl⟩⟩
  · rw [Bool.not_eq_false', cut_iff]
    exact fun i _ hn => hs.same i (by omega)
  · rw [beq_iff_eq]
    by_cases h : n = 128
    · obtain ⟨h1, h2⟩ := he.1 h
      subst h1; subst h2; rw [h]; simp
    · have h1 : ¬ (a = c ∧ b = d) := fun h2 => h (he.2 h2)
      rw [show ((n : Int) == 128) = false from by simp; omega]
      symm
      rw [Bool.and_eq_false_iff, beq_eq_false_iff_ne, beq_eq_false_iff_ne]
      rw [Classical.not_and_iff_not_or_not] at h1
      exact h1
  · have hn : n < 128 := by simp only [beq_eq_false_iff_ne, ne_eq] at h; omega
    rw [Bool.not_eq_true']
    cases hx : (a &&& mkW ((n : Int) + 1) == c &&& mkW ((n : Int) + 1) && b &&& mkW ((n : Int) + 1 - 64) == d &&& mkW ((n : Int) + 1 - 64)) with
    | false => rfl
    | true => exact absurd (cut_iff.1 hx n hn (by omega)) (hs.other hn)

theorem V_ones {a b : BitVec 64} : (a = mkW 128 ∧ b = mkW (128 - 64)) ↔ V a b = 2 ^ 128 - 1 := by
  have h : V (mkW 128) (mkW (128 - 64)) = 2 ^ 128 - 1 := ones_bits (V_lt _ _) fun i hi => by
    have e : i = 127 - (127 - i) := by omega
    rw [e, V_bit _ _ (by omega), bitAt_mk _ (by omega)]
    simp; omega
  rw [← h]
  exact V_inj.symm

theorem nexts_law (a b c d : BitVec 64) : ∃ hs, run orderCs Try.prog 10 [.agg [.w64 a, .w64 b], .agg [.w64 c, .w64 d]] [] hs isTrue := by
  refine ⟨[.fork [.br true] [.br true, .fork [.br true] [.br true, .br true]]], ?_⟩
  rw [nexts_run]
  have hv := V_lt a b
  have ho := V_ones (a := a) (b := b)
  refine ⟨fun h => ⟨?_, trivial, rfl⟩, fun h => ?_⟩
  · have h1 : V a b = 2 ^ 128 - 1 := ho.1 (by simpa [andAll] using h)
    rw [h1]
    decide
  · have h1 : V a b ≠ 2 ^ 128 - 1 := fun e => by
      obtain ⟨e1, e2⟩ := ho.2 e
      rw [e1, e2] at h
      simp [andAll] at h
    have hn : V (hiN (V a b + 1)) (loN (V a b + 1)) = V a b + 1 := by rw [V_hilo]; omega
    rw [hn]
    refine ⟨?_, fun _ => ⟨trivial, rfl⟩, fun h2 => ⟨?_, trivial, rfl⟩⟩
    · unfold cmpV; rw [if_neg (by omega), if_pos (by omega)]; rfl
    · simp only [decide_eq_false_iff_not, decide_eq_true_eq] at h2 ⊢
      unfold cmpV at h2 ⊢
      split at h2
      · omega
      · split at h2
        · omega
        · split
          · omega
          · rw [if_neg (by omega)]; omega

theorem order_any : ∃ C : Sx.Call, COK Try.prog false C ∧ (∀ a b c d : BitVec 64, ∃ hs, C 6 [.agg [.w64 a, .w64 b], .agg [.w64 c, .w64 d]] [] hs isTrue) ∧
    (∀ a b c d : BitVec 64, ∃ hs, C 8 [.agg [.w64 a, .w64 b], .agg [.w64 c, .w64 d]] [] hs isTrue) ∧
    ∀ a b c d : BitVec 64, ∃ hs, C 10 [.agg [.w64 a, .w64 b], .agg [.w64 c, .w64 d]] [] hs isTrue :=
  ⟨run orderCs Try.prog, run_ok (l := orderCs) orderCs_ok mixed noNG, order_law, cuts_law, nexts_law⟩

theorem order_holds : Rows.AddrOrderSaid :=
  addrOrder_of fun a0 a1 b0 b1 w => by
    obtain ⟨C, hC, h, _, _⟩ := order_any
    obtain ⟨hs, h⟩ := h a0 a1 b0 b1
    exact addrOrder_call hC a0 a1 b0 b1 h w

theorem cuts_holds : Rows.AddrCutsSaid :=
  addrCuts_of fun a0 a1 b0 b1 w => by
    obtain ⟨C, hC, _, h, _⟩ := order_any
    obtain ⟨hs, h⟩ := h a0 a1 b0 b1
    exact addrCuts_call hC a0 a1 b0 b1 h w

theorem nexts_holds : Rows.AddrNextsSaid :=
  addrNexts_of fun a0 a1 b0 b1 w => by
    obtain ⟨C, hC, _, _, h⟩ := order_any
    obtain ⟨hs, h⟩ := h a0 a1 b0 b1
    exact addrNexts_call hC a0 a1 b0 b1 h w

#print axioms order_holds
#print axioms cuts_holds
#print axioms nexts_holds
end Go.Proofs.Ytbbiehgdkfgngaa.L1
