/-
  Layer 4: the laws WordFree and WordSome: their conditions, their proofs.
-/
import Derived.Test.YthhckkollnnfeaaL4C
import Derived.Test.YthhckkollnnfeaaL4G
namespace Go.Proofs.Ythhckkollnnfeaa.L1
open Go.Sx Go.Sx.M

noncomputable def l4hCs : List (FuncId × Sx.Spec) := [(19, awakeSpec),
  (12, genSpec [none, none] wmatchF),
  (23, genSpec [none] wfreeF),
  (29, genSpec [none, none] wsomeF),
  (30, genSpec [none, none] wsomeF),
  (32, genSpec [none, none] bitF),
  (31, genSpec [none, none, none] withF),
  (33, genSpec [none] onesF)]

theorem l4hCs_ok : ∀ e ∈ l4hCs, SpecOK Try.prog e.1 e.2 := by
  intro e he
  simp only [l4hCs, List.mem_cons, List.not_mem_nil, or_false] at he
  rcases he with rfl | rfl | rfl | rfl | rfl | rfl | rfl | rfl
  · exact awake4_ok
  · exact wmatch_ok
  · exact wfree_ok
  · exact wsome_ok
  · exact rwsome_ok
  · exact bit_ok
  · exact with_ok
  · exact ones_ok

/-- What is kept while numbers are tried: the number. -/
def trySt (v w m n a b : BitVec 64) (p : Nat) : St :=
  ⟨[.any, .any, .any, .ptr 0 0 0 true, .any, .ptr 1 0 0 true, .any, .any, .any, .any, .any, .any, .any, .any, .any, .any, .any, .any, .any, .any, .any, .any, .any, .any, .any, .any, .any, .any, .any, .any, .any, .any, .any, .any, .int .i64 p, .any, .any, .any, .any, .any, .any, .any, .any, .any], [some ⟨true, 26, 4, true, [.agg [.w64 v, .w64 w, .w64 m, .w64 n]]⟩, some ⟨true, 24, 2, true, [.agg [.w64 a, .w64 b]]⟩]⟩
def tryM0 : Modes := ⟨[0, 0, 0, 1, 0, 1, 0, 0, 0, 0, 0, 0, 0, 0, 0, 0, 0, 0, 0, 0, 0, 0, 0, 0, 0, 0, 0, 0, 0, 0, 0, 0, 0, 0, 2, 0, 0, 0, 0, 0, 0, 0, 0, 0], [], [], [], []⟩
def tryM : Modes := ⟨[0, 0, 0, 1, 0, 1, 0, 0, 0, 0, 0, 0, 0, 0, 0, 0, 0, 0, 0, 0, 0, 0, 0, 0, 0, 0, 0, 0, 0, 0, 0, 0, 0, 0, 1, 0, 0, 0, 0, 0, 0, 0, 0, 0], [], [], [], []⟩
def tryM' : Modes := ⟨[0, 0, 0, 0, 0, 0, 1, 0, 0, 0, 0, 0, 0, 0, 0, 0, 0, 0, 0, 0, 0, 0, 0, 0, 0, 0, 0, 0, 0, 0, 0, 0, 0, 0, 0, 0, 0, 0, 0, 0, 0, 0, 0, 0], [], [], [], []⟩
def tryI (v w m n a b : BitVec 64) (p : Nat) : Prop := p ≤ 256 ∧ ∀ x : Nat, x < p → ¬ (smW v w m n (BitVec.ofInt 64 x) 0 = a ∧ smW v w m n (BitVec.ofInt 64 x) 64 = b)

noncomputable def free_run_cut0 (v w m n : BitVec 64) (x k : Int) : St := Go.Sx.St.mk [Go.Sx.AV.any, Go.Sx.AV.any, Go.Sx.AV.int Go.IntKind.i64 k, Go.Sx.AV.ptr (0 : Nat) (0 : Nat) (0 : Nat) Bool.true, Go.Sx.AV.any, Go.Sx.AV.any, Go.Sx.AV.any, Go.Sx.AV.any, Go.Sx.AV.ptr ((0 : Nat) + (1 : Nat)) (0 : Nat) (0 : Nat) Bool.true, Go.Sx.AV.any, Go.Sx.AV.any, Go.Sx.AV.any, Go.Sx.AV.any, Go.Sx.AV.any, Go.Sx.AV.any, Go.Sx.AV.any, Go.Sx.AV.any, Go.Sx.AV.any, Go.Sx.AV.any, Go.Sx.AV.any, Go.Sx.AV.any, Go.Sx.AV.any, Go.Sx.AV.any, Go.Sx.AV.any, Go.Sx.AV.any, Go.Sx.AV.any, Go.Sx.AV.any, Go.Sx.AV.any, Go.Sx.AV.any, Go.Sx.AV.any, Go.Sx.AV.any, Go.Sx.AV.any, Go.Sx.AV.any, Go.Sx.AV.any, Go.Sx.AV.any, Go.Sx.AV.any, Go.Sx.AV.any, Go.Sx.AV.any, Go.Sx.AV.any, Go.Sx.AV.any, Go.Sx.AV.any, Go.Sx.AV.any, Go.Sx.AV.any, Go.Sx.AV.any, Go.Sx.AV.any, Go.Sx.AV.any, Go.Sx.AV.any, Go.Sx.AV.any, Go.Sx.AV.any, Go.Sx.AV.any, Go.Sx.AV.any, Go.Sx.AV.any] [Option.some (Go.Sx.Blk.mk Bool.true (26 : Nat) (4 : Nat) Bool.true [Go.Sx.AV.agg [Go.Sx.AV.w64 v, Go.Sx.AV.w64 w, Go.Sx.AV.w64 m, Go.Sx.AV.w64 n]]), Option.some (Go.Sx.Blk.write (Go.Sx.Blk.mk Bool.true (24 : Nat) (2 : Nat) Bool.true [Go.Sx.AV.agg [Go.Sx.AV.lit (Go.Value.int Go.IntKind.u64 (0 : Int)), Go.Sx.AV.lit (Go.Value.int Go.IntKind.u64 (0 : Int))]]) (0 : Nat) (0 : Nat) (Go.Sx.AV.agg [Go.Sx.AV.w64 (Go.Sx.M.put (Go.Sx.M.smW v w m n (BitVec.ofInt (64 : Nat) x) (0 : Nat)) k !Go.Sx.M.bitZ (Go.Sx.M.smW v w m n (BitVec.ofInt (64 : Nat) x) (0 : Nat)) (Go.Sx.M.smW v w m n (BitVec.ofInt (64 : Nat) x) (64 : Nat)) k), Go.Sx.AV.w64 (Go.Sx.M.put (Go.Sx.M.smW v w m n (BitVec.ofInt (64 : Nat) x) (64 : Nat)) (k - (64 : Int)) !Go.Sx.M.bitZ (Go.Sx.M.smW v w m n (BitVec.ofInt (64 : Nat) x) (0 : Nat)) (Go.Sx.M.smW v w m n (BitVec.ofInt (64 : Nat) x) (64 : Nat)) k)]))]

theorem free_run (v w m n : BitVec 64) (x k : Int) : run l4hCs Try.prog 9 [.agg [.w64 v, .w64 w, .w64 m, .w64 n], .int .i64 x, .int .i64 k] [] [.fork [.br true] [.fork [.br true] [.cut 52 [2, 3, 8] (free_run_cut0 v w m n x k) [], .br true, .nw, .br true]]] isTrue =
    ((Decidable.decide (k < (0 : Int)) = Bool.true → Go.Sx.M.wmB v w m n (Go.Sx.M.smW v w m n (BitVec.ofInt (64 : Nat) x) (0 : Nat)) (Go.Sx.M.smW v w m n (BitVec.ofInt (64 : Nat) x) (64 : Nat)) = Bool.true ∧ True ∧ Bool.true = Bool.true) ∧ (Decidable.decide (k < (0 : Int)) = Bool.false → (Decidable.decide (k > (127 : Int)) = Bool.true → Go.Sx.M.wmB v w m n (Go.Sx.M.smW v w m n (BitVec.ofInt (64 : Nat) x) (0 : Nat)) (Go.Sx.M.smW v w m n (BitVec.ofInt (64 : Nat) x) (64 : Nat)) = Bool.true ∧ True ∧ Bool.true = Bool.true) ∧ (Decidable.decide (k > (127 : Int)) = Bool.false → (((∃ (_ : Unit), (free_run_cut0 v w m n x k) = (free_run_cut0 v w m n x k) ∧ True) ∧ ∃ (_ : Unit), (free_run_cut0 v w m n x k) = (free_run_cut0 v w m n x k) ∧ True) ∧ ∃ (_ : Unit), (free_run_cut0 v w m n x k) = (free_run_cut0 v w m n x k) ∧ True) ∧ ∀ (_ : Unit), True → (Go.Sx.M.wmB v w m n (Go.Sx.M.put (Go.Sx.M.smW v w m n (BitVec.ofInt (64 : Nat) x) (0 : Nat)) k !Go.Sx.M.bitZ (Go.Sx.M.smW v w m n (BitVec.ofInt (64 : Nat) x) (0 : Nat)) (Go.Sx.M.smW v w m n (BitVec.ofInt (64 : Nat) x) (64 : Nat)) k) (Go.Sx.M.put (Go.Sx.M.smW v w m n (BitVec.ofInt (64 : Nat) x) (64 : Nat)) (k - (64 : Int)) !Go.Sx.M.bitZ (Go.Sx.M.smW v w m n (BitVec.ofInt (64 : Nat) x) (0 : Nat)) (Go.Sx.M.smW v w m n (BitVec.ofInt (64 : Nat) x) (64 : Nat)) k) == !Go.Sx.M.bitZ m n k) = Bool.true ∧ Go.Sx.inRange Go.IntKind.i64 ((128 : Int) - ((↑(Go.Sx.M.cnt (64 : Nat) (BitVec.toNat m)) : Int) + (↑(Go.Sx.M.cnt (64 : Nat) (BitVec.toNat n)) : Int))) ∧ ((↑(Go.Sx.M.cnt (64 : Nat) (BitVec.toNat (~~~m))) : Int) + (↑(Go.Sx.M.cnt (64 : Nat) (BitVec.toNat (~~~n))) : Int) == (128 : Int) - ((↑(Go.Sx.M.cnt (64 : Nat) (BitVec.toNat m)) : Int) + (↑(Go.Sx.M.cnt (64 : Nat) (BitVec.toNat n)) : Int))) = Bool.true ∧ True ∧ Bool.true = Bool.true))) := by kernel_rfl

theorem some_run (v w m n : BitVec 64) (x : Int) (a b : BitVec 64) : run l4hCs Try.prog 7 [.agg [.w64 v, .w64 w, .w64 m, .w64 n], .int .i64 x, .agg [.w64 a, .w64 b]] [] [.br false, .br false, .fork [] [.fork [] [.linv _ 0 (trySt v w m n a b) (tryI v w m n a b) (fun p => 300 - p) tryM0 tryM tryM' (fun _ => []) fun _ => [.fork [.fork [] [.nw]] []]]]] isTrue =
    ((!(Go.Sx.M.smW v w m n (BitVec.ofInt (64 : Nat) x) (0 : Nat) == Go.Sx.M.smW v w m n (BitVec.ofInt (64 : Nat) x) (0 : Nat) && Go.Sx.M.smW v w m n (BitVec.ofInt (64 : Nat) x) (64 : Nat) == Go.Sx.M.smW v w m n (BitVec.ofInt (64 : Nat) x) (64 : Nat))) = Bool.false ∧ (!Go.Sx.M.wmB v w m n (Go.Sx.M.smW v w m n (BitVec.ofInt (64 : Nat) x) (0 : Nat)) (Go.Sx.M.smW v w m n (BitVec.ofInt (64 : Nat) x) (64 : Nat))) = Bool.false ∧ (Decidable.decide ((↑(Go.Sx.M.cnt (64 : Nat) (BitVec.toNat (~~~m))) : Int) + (↑(Go.Sx.M.cnt (64 : Nat) (BitVec.toNat (~~~n))) : Int) > (8 : Int)) = Bool.true → True ∧ Bool.true = Bool.true) ∧ (Decidable.decide ((↑(Go.Sx.M.cnt (64 : Nat) (BitVec.toNat (~~~m))) : Int) + (↑(Go.Sx.M.cnt (64 : Nat) (BitVec.toNat (~~~n))) : Int) > (8 : Int)) = Bool.false → ((!Go.Sx.M.wmB v w m n a b) = Bool.true → True ∧ Bool.true = Bool.true) ∧ ((!Go.Sx.M.wmB v w m n a b) = Bool.false → (Go.Sx.St.mk [Go.Sx.AV.any, Go.Sx.AV.any, Go.Sx.AV.any, Go.Sx.AV.ptr (0 : Nat) (0 : Nat) (0 : Nat) Bool.true, Go.Sx.AV.any, Go.Sx.AV.ptr ((0 : Nat) + (1 : Nat)) (0 : Nat) (0 : Nat) Bool.true, Go.Sx.AV.any, Go.Sx.AV.any, Go.Sx.AV.any, Go.Sx.AV.any, Go.Sx.AV.any, Go.Sx.AV.any, Go.Sx.AV.any, Go.Sx.AV.any, Go.Sx.AV.any, Go.Sx.AV.any, Go.Sx.AV.any, Go.Sx.AV.any, Go.Sx.AV.any, Go.Sx.AV.any, Go.Sx.AV.any, Go.Sx.AV.any, Go.Sx.AV.any, Go.Sx.AV.any, Go.Sx.AV.any, Go.Sx.AV.any, Go.Sx.AV.any, Go.Sx.AV.any, Go.Sx.AV.any, Go.Sx.AV.any, Go.Sx.AV.any, Go.Sx.AV.any, Go.Sx.AV.any, Go.Sx.AV.any, Go.Sx.AV.int Go.IntKind.i64 (0 : Int), Go.Sx.AV.any, Go.Sx.AV.any, Go.Sx.AV.any, Go.Sx.AV.any, Go.Sx.AV.any, Go.Sx.AV.any, Go.Sx.AV.any, Go.Sx.AV.any, Go.Sx.AV.any] [Option.some (Go.Sx.Blk.mk Bool.true (26 : Nat) (4 : Nat) Bool.true [Go.Sx.AV.agg [Go.Sx.AV.w64 v, Go.Sx.AV.w64 w, Go.Sx.AV.w64 m, Go.Sx.AV.w64 n]]), Option.some (Go.Sx.Blk.mk Bool.true (24 : Nat) (2 : Nat) Bool.true [Go.Sx.AV.agg [Go.Sx.AV.w64 a, Go.Sx.AV.w64 b]])] = Go.Proofs.Ythhckkollnnfeaa.L1.trySt v w m n a b (0 : Nat) ∧ Go.Proofs.Ythhckkollnnfeaa.L1.tryI v w m n a b (0 : Nat)) ∧ ∀ (p : Nat), Go.Proofs.Ythhckkollnnfeaa.L1.tryI v w m n a b p → (Decidable.decide ((↑p : Int) < (256 : Int)) = Bool.true → (Go.Sx.andAll [Go.Sx.M.smW v w m n (BitVec.ofInt (64 : Nat) (↑p : Int)) (0 : Nat) == a, Go.Sx.M.smW v w m n (BitVec.ofInt (64 : Nat) (↑p : Int)) (64 : Nat) == b] = Bool.true → True ∧ Bool.true = Bool.true) ∧ (Go.Sx.andAll [Go.Sx.M.smW v w m n (BitVec.ofInt (64 : Nat) (↑p : Int)) (0 : Nat) == a, Go.Sx.M.smW v w m n (BitVec.ofInt (64 : Nat) (↑p : Int)) (64 : Nat) == b] = Bool.false → Go.Sx.inRange Go.IntKind.i64 ((↑p : Int) + (1 : Int)) ∧ ∃ (p' : Nat), Go.Sx.St.mk [Go.Sx.AV.any, Go.Sx.AV.any, Go.Sx.AV.any, Go.Sx.AV.ptr (0 : Nat) (0 : Nat) (0 : Nat) Bool.true, Go.Sx.AV.any, Go.Sx.AV.ptr ((0 : Nat) + (1 : Nat)) (0 : Nat) (0 : Nat) Bool.true, Go.Sx.AV.any, Go.Sx.AV.any, Go.Sx.AV.any, Go.Sx.AV.any, Go.Sx.AV.any, Go.Sx.AV.any, Go.Sx.AV.any, Go.Sx.AV.any, Go.Sx.AV.any, Go.Sx.AV.any, Go.Sx.AV.any, Go.Sx.AV.any, Go.Sx.AV.any, Go.Sx.AV.any, Go.Sx.AV.any, Go.Sx.AV.any, Go.Sx.AV.any, Go.Sx.AV.any, Go.Sx.AV.any, Go.Sx.AV.any, Go.Sx.AV.any, Go.Sx.AV.any, Go.Sx.AV.any, Go.Sx.AV.any, Go.Sx.AV.any, Go.Sx.AV.any, Go.Sx.AV.any, Go.Sx.AV.any, Go.Sx.AV.int Go.IntKind.i64 ((↑p : Int) + (1 : Int)), Go.Sx.AV.any, Go.Sx.AV.any, Go.Sx.AV.any, Go.Sx.AV.any, Go.Sx.AV.any, Go.Sx.AV.any, Go.Sx.AV.any, Go.Sx.AV.any, Go.Sx.AV.any] [Option.some (Go.Sx.Blk.mk Bool.true (26 : Go.TypeId) (4 : Nat) Bool.true [Go.Sx.AV.agg [Go.Sx.AV.w64 v, Go.Sx.AV.w64 w, Go.Sx.AV.w64 m, Go.Sx.AV.w64 n]]), Option.some (Go.Sx.Blk.mk Bool.true (24 : Go.TypeId) (2 : Nat) Bool.true [Go.Sx.AV.agg [Go.Sx.AV.w64 a, Go.Sx.AV.w64 b]])] = Go.Proofs.Ythhckkollnnfeaa.L1.trySt v w m n a b p' ∧ Go.Proofs.Ythhckkollnnfeaa.L1.tryI v w m n a b p' ∧ (300 : Nat) - p' < (300 : Nat) - p)) ∧ (Decidable.decide ((↑p : Int) < (256 : Int)) = Bool.false → Bool.false = Bool.true)))) := by kernel_rfl

theorem turn_match {v w m n a b : BitVec 64} {k : Int} (h0 : 0 ≤ k) (h1 : k ≤ 127) (h : wmB v w m n a b = true) : wmB v w m n (put a k !bitZ a b k) (put b (k - 64) !bitZ a b k) = !bitZ m n k := by
  rw [wmB_iff] at h
  rw [bitZ_in h0 (by omega), bitZ_in h0 (by omega)]
  cases hm : bitAt m n k.toNat with
  | true =>
    refine notT wmB_iff fun hh => ?_
    have h2 := h _ (by omega) hm
    have h3 := hh _ (by omega) hm
    rw [bitAt_putW _ _ _ _ (by omega), if_pos (by omega), h2] at h3
    revert h3
    cases bitAt a b k.toNat <;> simp
  | false =>
    refine wmB_iff.2 fun i hi hm2 => ?_
    rw [bitAt_putW _ _ _ _ hi, if_neg fun e => ?_]
    · exact h i hi hm2
    · rw [show k.toNat = i from by omega, hm2] at hm; cases hm

theorem free_law (v w m n : BitVec 64) (x k : Int) : ∃ hs, run l4hCs Try.prog 9 [.agg [.w64 v, .w64 w, .w64 m, .w64 n], .int .i64 x, .int .i64 k] [] hs isTrue := by
  refine ⟨[.fork [.br true] [.fork [.br true] [.cut 52 [2, 3, 8] (free_run_cut0 v w m n x k) [], .br true, .nw, .br true]]], ?_⟩
  rw [free_run]
  have hs := sm_match v w m n (BitVec.ofInt 64 x)
  refine ⟨fun _ => ⟨hs, trivial, rfl⟩, fun h0 => ⟨fun _ => ⟨hs, trivial, rfl⟩, fun h1 => ⟨(by repeat' (first | exact ⟨(), rfl, trivial⟩ | refine And.intro ?_ ?_)), fun _ _ => ⟨?_, ?_, ?_, trivial, rfl⟩⟩⟩⟩
  all_goals
    simp only [decide_eq_false_iff_not] at h0 h1
    have hc := cnt_not m n
  · rw [turn_match (by omega) (by omega) hs, beq_self_eq_true]
  · exact inR (by omega) (by omega)
  · rw [beq_iff_eq]; omega

theorem some_law (v w m n : BitVec 64) (x : Int) (a b : BitVec 64) : ∃ hs, run l4hCs Try.prog 7 [.agg [.w64 v, .w64 w, .w64 m, .w64 n], .int .i64 x, .agg [.w64 a, .w64 b]] [] hs isTrue := by
  refine ⟨[.br false, .br false, .fork [] [.fork [] [.linv _ 0 (trySt v w m n a b) (tryI v w m n a b) (fun p => 300 - p) tryM0 tryM tryM' (fun _ => []) fun _ => [.fork [.fork [] [.nw]] []]]]], ?_⟩
  rw [some_run, sm_match]
  refine ⟨by simp, rfl, fun _ => ⟨trivial, rfl⟩, fun hf => ⟨fun _ => ⟨trivial, rfl⟩, fun hm => ⟨⟨rfl, by omega, fun i hi => by omega⟩, ?_⟩⟩⟩
  rintro p ⟨h1, h2⟩
  refine ⟨fun hlt => ⟨fun _ => ⟨trivial, rfl⟩, fun hne => ⟨inR (by omega) (by omega), p + 1, rfl, ⟨?_, fun i hi => ?_⟩, by omega⟩⟩, fun hge => ?_⟩
  · simp only [decide_eq_true_eq] at hlt; omega
  · rcases Nat.lt_or_eq_of_le (Nat.le_of_lt_succ hi) with h | rfl
    · exact h2 i h
    · rintro ⟨e1, e2⟩
      rw [e1, e2] at hne
      simp [andAll] at hne
  · simp only [decide_eq_false_iff_not] at hge hf
    rw [Bool.not_eq_false'] at hm
    obtain ⟨K, hK, e1, e2⟩ := some_all hm (by omega)
    exact absurd ⟨e1, e2⟩ (h2 K (by omega))

end Go.Proofs.Ythhckkollnnfeaa.L1
