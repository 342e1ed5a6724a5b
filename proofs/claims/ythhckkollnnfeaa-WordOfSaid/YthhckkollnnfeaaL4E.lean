/-
  Layer 4: the law WordOf: its condition, its proof.
-/
import Derived.Test.YthhckkollnnfeaaL4C
namespace Go.Proofs.Ythhckkollnnfeaa.L1
open Go.Sx Go.Sx.M

noncomputable def of_law_run_cut0 (a b : BitVec 64) (k : Int) (c d : BitVec 64) (j : Int) (e f : BitVec 64) : St := Go.Sx.St.mk [Go.Sx.AV.any, Go.Sx.AV.any, Go.Sx.AV.any, Go.Sx.AV.ptr (0 : Nat) (0 : Nat) (0 : Nat) Bool.true, Go.Sx.AV.ptr ((0 : Nat) + (1 : Nat)) (0 : Nat) (0 : Nat) Bool.true, Go.Sx.AV.ptr ((0 : Nat) + (1 : Nat) + (1 : Nat)) (0 : Nat) (0 : Nat) Bool.true, Go.Sx.AV.any, Go.Sx.AV.ptr ((0 : Nat) + (1 : Nat) + (1 : Nat) + (1 : Nat)) (0 : Nat) (0 : Nat) Bool.true, Go.Sx.AV.ptr ((0 : Nat) + (1 : Nat) + (1 : Nat) + (1 : Nat) + (1 : Nat)) (0 : Nat) (0 : Nat) Bool.true, Go.Sx.AV.any, Go.Sx.AV.any, Go.Sx.AV.any, Go.Sx.AV.any, Go.Sx.AV.any, Go.Sx.AV.any, Go.Sx.AV.any, Go.Sx.AV.any, Go.Sx.AV.any, Go.Sx.AV.any, Go.Sx.AV.any, Go.Sx.AV.any, Go.Sx.AV.any, Go.Sx.AV.any, Go.Sx.AV.any, Go.Sx.AV.any, Go.Sx.AV.any, Go.Sx.AV.any, Go.Sx.AV.any, Go.Sx.AV.any, Go.Sx.AV.any, Go.Sx.AV.any, Go.Sx.AV.any, Go.Sx.AV.any, Go.Sx.AV.any, Go.Sx.AV.any, Go.Sx.AV.any, Go.Sx.AV.any, Go.Sx.AV.any, Go.Sx.AV.any, Go.Sx.AV.any, Go.Sx.AV.any, Go.Sx.AV.any, Go.Sx.AV.any, Go.Sx.AV.any, Go.Sx.AV.any, Go.Sx.AV.any, Go.Sx.AV.any, Go.Sx.AV.any, Go.Sx.AV.any, Go.Sx.AV.any, Go.Sx.AV.any, Go.Sx.AV.any, Go.Sx.AV.any, Go.Sx.AV.any, Go.Sx.AV.any, Go.Sx.AV.any, Go.Sx.AV.any, Go.Sx.AV.any, Go.Sx.AV.any, Go.Sx.AV.any, Go.Sx.AV.any, Go.Sx.AV.any] [Option.some (Go.Sx.Blk.mk Bool.true (44 : Nat) (3 : Nat) Bool.true [Go.Sx.AV.agg [Go.Sx.AV.w64 a, Go.Sx.AV.w64 b, Go.Sx.AV.int Go.IntKind.i64 k]]), Option.some (Go.Sx.Blk.mk Bool.true (44 : Nat) (3 : Nat) Bool.true [Go.Sx.AV.agg [Go.Sx.AV.w64 c, Go.Sx.AV.w64 d, Go.Sx.AV.int Go.IntKind.i64 j]]), Option.some (Go.Sx.Blk.mk Bool.true (24 : Nat) (2 : Nat) Bool.true [Go.Sx.AV.agg [Go.Sx.AV.w64 e, Go.Sx.AV.w64 f]]), Option.some (Go.Sx.Blk.write (Go.Sx.Blk.mk Bool.true (26 : Nat) (4 : Nat) Bool.true [Go.Sx.AV.agg [Go.Sx.AV.lit (Go.Value.int Go.IntKind.u64 (0 : Int)), Go.Sx.AV.lit (Go.Value.int Go.IntKind.u64 (0 : Int)), Go.Sx.AV.lit (Go.Value.int Go.IntKind.u64 (0 : Int)), Go.Sx.AV.lit (Go.Value.int Go.IntKind.u64 (0 : Int))]]) (0 : Nat) (0 : Nat) (Go.Sx.AV.agg [Go.Sx.AV.w64 (a &&& Go.Proofs.Ythhckkollnnfeaa.L1.mkW k), Go.Sx.AV.w64 (b &&& Go.Proofs.Ythhckkollnnfeaa.L1.mkW (k - (64 : Int))), Go.Sx.AV.w64 (Go.Proofs.Ythhckkollnnfeaa.L1.mkW k), Go.Sx.AV.w64 (Go.Proofs.Ythhckkollnnfeaa.L1.mkW (k - (64 : Int)))])), Option.some (Go.Sx.Blk.write (Go.Sx.Blk.mk Bool.true (26 : Nat) (4 : Nat) Bool.true [Go.Sx.AV.agg [Go.Sx.AV.lit (Go.Value.int Go.IntKind.u64 (0 : Int)), Go.Sx.AV.lit (Go.Value.int Go.IntKind.u64 (0 : Int)), Go.Sx.AV.lit (Go.Value.int Go.IntKind.u64 (0 : Int)), Go.Sx.AV.lit (Go.Value.int Go.IntKind.u64 (0 : Int))]]) (0 : Nat) (0 : Nat) (Go.Sx.AV.agg [Go.Sx.AV.w64 (c &&& Go.Proofs.Ythhckkollnnfeaa.L1.mkW j), Go.Sx.AV.w64 (d &&& Go.Proofs.Ythhckkollnnfeaa.L1.mkW (j - (64 : Int))), Go.Sx.AV.w64 (Go.Proofs.Ythhckkollnnfeaa.L1.mkW j), Go.Sx.AV.w64 (Go.Proofs.Ythhckkollnnfeaa.L1.mkW (j - (64 : Int)))]))]

theorem of_law_run (a b : BitVec 64) (k : Int) (c d : BitVec 64) (j : Int) (e f : BitVec 64) : run l4Cs Try.prog 6 [.agg [.w64 a, .w64 b, .int .i64 k], .agg [.w64 c, .w64 d, .int .i64 j], .agg [.w64 e, .w64 f]] [] [.cut 62 [3, 4, 5, 7, 8] (of_law_run_cut0 a b k c d j e f) [], .br false, .br false, .fork [] [.fork [] [.br true, .fork [.br true, .nw, .br true] [.br true, .nw, .br true]]]] isTrue =
    (((((∃ (_ : Unit), (of_law_run_cut0 a b k c d j e f) = (of_law_run_cut0 a b k c d j e f) ∧ True) ∧ ∃ (_ : Unit), (of_law_run_cut0 a b k c d j e f) = (of_law_run_cut0 a b k c d j e f) ∧ True) ∧ ((∃ (_ : Unit), (of_law_run_cut0 a b k c d j e f) = (of_law_run_cut0 a b k c d j e f) ∧ True) ∧ ∃ (_ : Unit), (of_law_run_cut0 a b k c d j e f) = (of_law_run_cut0 a b k c d j e f) ∧ True) ∧ (∃ (_ : Unit), (of_law_run_cut0 a b k c d j e f) = (of_law_run_cut0 a b k c d j e f) ∧ True) ∧ ∃ (_ : Unit), (of_law_run_cut0 a b k c d j e f) = (of_law_run_cut0 a b k c d j e f) ∧ True) ∧ (((∃ (_ : Unit), (of_law_run_cut0 a b k c d j e f) = (of_law_run_cut0 a b k c d j e f) ∧ True) ∧ ∃ (_ : Unit), (of_law_run_cut0 a b k c d j e f) = (of_law_run_cut0 a b k c d j e f) ∧ True) ∧ ∃ (_ : Unit), (of_law_run_cut0 a b k c d j e f) = (of_law_run_cut0 a b k c d j e f) ∧ True) ∧ ((∃ (_ : Unit), (of_law_run_cut0 a b k c d j e f) = (of_law_run_cut0 a b k c d j e f) ∧ True) ∧ ∃ (_ : Unit), (of_law_run_cut0 a b k c d j e f) = (of_law_run_cut0 a b k c d j e f) ∧ True) ∧ ∃ (_ : Unit), (of_law_run_cut0 a b k c d j e f) = (of_law_run_cut0 a b k c d j e f) ∧ True) ∧ ∀ (_ : Unit), True → (!(a &&& Go.Proofs.Ythhckkollnnfeaa.L1.mkW k &&& Go.Proofs.Ythhckkollnnfeaa.L1.mkW k == a &&& Go.Proofs.Ythhckkollnnfeaa.L1.mkW k && b &&& Go.Proofs.Ythhckkollnnfeaa.L1.mkW (k - (64 : Int)) &&& Go.Proofs.Ythhckkollnnfeaa.L1.mkW (k - (64 : Int)) == b &&& Go.Proofs.Ythhckkollnnfeaa.L1.mkW (k - (64 : Int)))) = Bool.false ∧ (!Go.Sx.M.wmB (a &&& Go.Proofs.Ythhckkollnnfeaa.L1.mkW k) (b &&& Go.Proofs.Ythhckkollnnfeaa.L1.mkW (k - (64 : Int))) (Go.Proofs.Ythhckkollnnfeaa.L1.mkW k) (Go.Proofs.Ythhckkollnnfeaa.L1.mkW (k - (64 : Int))) e f == Go.Proofs.Ythhckkollnnfeaa.L1.matchB a b k e f) = Bool.false ∧ ((!Go.Proofs.Ythhckkollnnfeaa.L1.rightB (128 : Int) a b k) = Bool.true → True ∧ Bool.true = Bool.true) ∧ ((!Go.Proofs.Ythhckkollnnfeaa.L1.rightB (128 : Int) a b k) = Bool.false → ((!Go.Proofs.Ythhckkollnnfeaa.L1.rightB (128 : Int) c d j) = Bool.true → True ∧ Bool.true = Bool.true) ∧ ((!Go.Proofs.Ythhckkollnnfeaa.L1.rightB (128 : Int) c d j) = Bool.false → (Go.Sx.M.wcB (a &&& Go.Proofs.Ythhckkollnnfeaa.L1.mkW k) (b &&& Go.Proofs.Ythhckkollnnfeaa.L1.mkW (k - (64 : Int))) (Go.Proofs.Ythhckkollnnfeaa.L1.mkW k) (Go.Proofs.Ythhckkollnnfeaa.L1.mkW (k - (64 : Int))) (c &&& Go.Proofs.Ythhckkollnnfeaa.L1.mkW j) (d &&& Go.Proofs.Ythhckkollnnfeaa.L1.mkW (j - (64 : Int))) (Go.Proofs.Ythhckkollnnfeaa.L1.mkW j) (Go.Proofs.Ythhckkollnnfeaa.L1.mkW (j - (64 : Int))) == (Decidable.decide (k ≤ j) && Go.Proofs.Ythhckkollnnfeaa.L1.matchB a b k c d)) = Bool.true ∧ ((!(Decidable.decide (k ≤ j) && Go.Proofs.Ythhckkollnnfeaa.L1.matchB a b k c d)) = Bool.true → (Go.Sx.M.wtB (a &&& Go.Proofs.Ythhckkollnnfeaa.L1.mkW k) (b &&& Go.Proofs.Ythhckkollnnfeaa.L1.mkW (k - (64 : Int))) (Go.Proofs.Ythhckkollnnfeaa.L1.mkW k) (Go.Proofs.Ythhckkollnnfeaa.L1.mkW (k - (64 : Int))) (c &&& Go.Proofs.Ythhckkollnnfeaa.L1.mkW j) (d &&& Go.Proofs.Ythhckkollnnfeaa.L1.mkW (j - (64 : Int))) (Go.Proofs.Ythhckkollnnfeaa.L1.mkW j) (Go.Proofs.Ythhckkollnnfeaa.L1.mkW (j - (64 : Int))) == !!(Decidable.decide (j ≤ k) && Go.Proofs.Ythhckkollnnfeaa.L1.matchB c d j a b)) = Bool.true ∧ Go.Sx.inRange Go.IntKind.i64 ((128 : Int) - k) ∧ ((↑(Go.Sx.M.cnt (64 : Nat) (BitVec.toNat (~~~Go.Proofs.Ythhckkollnnfeaa.L1.mkW k))) : Int) + (↑(Go.Sx.M.cnt (64 : Nat) (BitVec.toNat (~~~Go.Proofs.Ythhckkollnnfeaa.L1.mkW (k - (64 : Int))))) : Int) == (128 : Int) - k) = Bool.true ∧ True ∧ Bool.true = Bool.true) ∧ ((!(Decidable.decide (k ≤ j) && Go.Proofs.Ythhckkollnnfeaa.L1.matchB a b k c d)) = Bool.false → (Go.Sx.M.wtB (a &&& Go.Proofs.Ythhckkollnnfeaa.L1.mkW k) (b &&& Go.Proofs.Ythhckkollnnfeaa.L1.mkW (k - (64 : Int))) (Go.Proofs.Ythhckkollnnfeaa.L1.mkW k) (Go.Proofs.Ythhckkollnnfeaa.L1.mkW (k - (64 : Int))) (c &&& Go.Proofs.Ythhckkollnnfeaa.L1.mkW j) (d &&& Go.Proofs.Ythhckkollnnfeaa.L1.mkW (j - (64 : Int))) (Go.Proofs.Ythhckkollnnfeaa.L1.mkW j) (Go.Proofs.Ythhckkollnnfeaa.L1.mkW (j - (64 : Int))) == !Bool.false) = Bool.true ∧ Go.Sx.inRange Go.IntKind.i64 ((128 : Int) - k) ∧ ((↑(Go.Sx.M.cnt (64 : Nat) (BitVec.toNat (~~~Go.Proofs.Ythhckkollnnfeaa.L1.mkW k))) : Int) + (↑(Go.Sx.M.cnt (64 : Nat) (BitVec.toNat (~~~Go.Proofs.Ythhckkollnnfeaa.L1.mkW (k - (64 : Int))))) : Int) == (128 : Int) - k) = Bool.true ∧ True ∧ Bool.true = Bool.true)))) := by kernel_rfl

theorem of_match {a b e f : BitVec 64} {k : Int} : wmB (a &&& mkW k) (b &&& mkW (k - 64)) (mkW k) (mkW (k - 64)) e f = matchB a b k e f := by
  rw [Bool.eq_iff_iff, wmB_iff]
  refine Iff.trans ?_ cut_iff.symm
  refine forall_congr' fun i => forall_congr' fun hi => ?_
  rw [bitAt_cut _ _ _ hi, bitAt_mk _ hi, decide_eq_true_eq]
  exact ⟨fun h hk => by have := h hk; rw [decide_eq_true hk, Bool.and_true] at this; exact this, fun h hk => by rw [decide_eq_true hk, Bool.and_true]; exact h hk⟩

theorem of_covers {a b c d : BitVec 64} {k j : Int} (hk : k ≤ 128) (hj : 0 ≤ j) : wcB (a &&& mkW k) (b &&& mkW (k - 64)) (mkW k) (mkW (k - 64)) (c &&& mkW j) (d &&& mkW (j - 64)) (mkW j) (mkW (j - 64)) = (decide (k ≤ j) && matchB a b k c d) := by
  rw [Bool.eq_iff_iff, wcB_iff, Bool.and_eq_true, decide_eq_true_eq]
  have hc := cut_iff (a := a) (b := b) (c := c) (d := d) (n := k)
  unfold matchB
  rw [hc]
  refine ⟨fun h => ⟨?_, fun i hi hk' => ?_⟩, fun ⟨h1, h2⟩ i hi hk' => ?_⟩
  · by_cases hlt : k ≤ j
    · exact hlt
    · have h1 := (h j.toNat (by omega) (by rw [bitAt_mk _ (by omega), decide_eq_true_eq]; omega)).1
      rw [bitAt_mk _ (by omega), decide_eq_true_eq] at h1
      omega
  · obtain ⟨h1, h2⟩ := h i hi (by rw [bitAt_mk _ hi, decide_eq_true_eq]; exact hk')
    rw [bitAt_mk _ hi, decide_eq_true_eq] at h1
    rw [bitAt_cut _ _ _ hi, bitAt_cut _ _ _ hi, decide_eq_true hk', decide_eq_true h1, Bool.and_true, Bool.and_true] at h2
    exact h2
  · rw [bitAt_mk _ hi, decide_eq_true_eq] at hk'
    rw [bitAt_mk _ hi, bitAt_cut _ _ _ hi, bitAt_cut _ _ _ hi, decide_eq_true hk', decide_eq_true (show (i : Int) < j by omega), Bool.and_true, Bool.and_true]
    exact ⟨rfl, h2 i hi hk'⟩

theorem of_meet {a b c d : BitVec 64} {k j : Int} : wtB (a &&& mkW k) (b &&& mkW (k - 64)) (mkW k) (mkW (k - 64)) (c &&& mkW j) (d &&& mkW (j - 64)) (mkW j) (mkW (j - 64)) = (decide (k ≤ j) && matchB a b k c d || decide (j ≤ k) && matchB c d j a b) := by
  rw [Bool.eq_iff_iff, wtB_iff, Bool.or_eq_true, Bool.and_eq_true, Bool.and_eq_true, decide_eq_true_eq, decide_eq_true_eq]
  have h1 := cut_iff (a := a) (b := b) (c := c) (d := d) (n := k)
  have h2 := cut_iff (a := c) (b := d) (c := a) (d := b) (n := j)
  unfold matchB
  rw [h1, h2]
  have e : (∀ i, i < 128 → bitAt (mkW k) (mkW (k - 64)) i = true → bitAt (mkW j) (mkW (j - 64)) i = true → bitAt (a &&& mkW k) (b &&& mkW (k - 64)) i = bitAt (c &&& mkW j) (d &&& mkW (j - 64)) i) ↔ ∀ i : Nat, i < 128 → (i : Int) < k → (i : Int) < j → bitAt a b i = bitAt c d i := by
    refine forall_congr' fun i => forall_congr' fun hi => ?_
    rw [bitAt_mk _ hi, bitAt_mk _ hi, bitAt_cut _ _ _ hi, bitAt_cut _ _ _ hi, decide_eq_true_eq, decide_eq_true_eq]
    exact ⟨fun h x y => by have := h x y; rwa [decide_eq_true x, decide_eq_true y, Bool.and_true, Bool.and_true] at this, fun h x y => by rw [decide_eq_true x, decide_eq_true y, Bool.and_true, Bool.and_true]; exact h x y⟩
  rw [e]
  refine ⟨fun h => ?_, fun h i hi x y => ?_⟩
  · by_cases hkj : k ≤ j
    · exact .inl ⟨hkj, fun i hi x => h i hi x (by omega)⟩
    · exact .inr ⟨by omega, fun i hi x => (h i hi (by omega) x).symm⟩
  · rcases h with ⟨_, h⟩ | ⟨_, h⟩
    · exact h i hi x
    · exact (h i hi y).symm

theorem cf_lt (k : Int) : ∀ n : Nat, (n : Int) ≤ k → cf (fun (i : Nat) => decide ((i : Int) < k)) n = n
  | 0, _ => rfl
  | n + 1, h => by
    show cf _ n + (if decide ((n : Int) < k) = true then 1 else 0) = _
    rw [cf_lt k n (by omega), if_pos (decide_eq_true (show (n : Int) < k by omega))]

theorem cf_ge (k : Int) (h0 : 0 ≤ k) : ∀ n : Nat, k ≤ (n : Int) → (cf (fun (i : Nat) => decide ((i : Int) < k)) n : Int) = k
  | 0, h => by have : k = 0 := by omega
               subst this; rfl
  | n + 1, h => by
    by_cases hk : k ≤ (n : Int)
    · have := cf_ge k h0 n hk
      show ((cf _ n + (if decide ((n : Int) < k) = true then 1 else 0) : Nat) : Int) = k
      rw [if_neg (by simp; omega)]
      exact this
    · rw [cf_lt k (n + 1) (by omega)]; omega

theorem cnt_mk {k : Int} (h0 : 0 ≤ k) (h1 : k ≤ 128) : (cnt 64 (~~~mkW k).toNat : Int) + (cnt 64 (~~~mkW (k - 64)).toNat : Int) = 128 - k := by
  have h := cnt_not (mkW k) (mkW (k - 64))
  have h2 : cnt 64 (mkW k).toNat + cnt 64 (mkW (k - 64)).toNat = cf (bitAt (mkW k) (mkW (k - 64))) 128 := cnt_words _ _
  have h3 : cf (bitAt (mkW k) (mkW (k - 64))) 128 = cf (fun (i : Nat) => decide ((i : Int) < k)) 128 := cf_congr fun i hi => bitAt_mk k hi
  have h4 := cf_ge k h0 128 h1
  omega

theorem right128 {a b : BitVec 64} {k : Int} (h : (!rightB 128 a b k) = false) : 0 ≤ k ∧ k ≤ 128 := by
  rw [Bool.not_eq_false'] at h
  unfold rightB at h
  simp only [Bool.and_eq_true, decide_eq_true_eq] at h
  exact ⟨h.2.1, h.2.2.1⟩

theorem of_law (a b : BitVec 64) (k : Int) (c d : BitVec 64) (j : Int) (e f : BitVec 64) : ∃ hs, run l4Cs Try.prog 6 [.agg [.w64 a, .w64 b, .int .i64 k], .agg [.w64 c, .w64 d, .int .i64 j], .agg [.w64 e, .w64 f]] [] hs isTrue := by
  refine ⟨[.cut 62 [3, 4, 5, 7, 8] (of_law_run_cut0 a b k c d j e f) [], .br false, .br false, .fork [] [.fork [] [.br true, .fork [.br true, .nw, .br true] [.br true, .nw, .br true]]]], ?_⟩
  rw [of_law_run, of_match, of_meet]
  refine ⟨(by repeat' (first | exact ⟨(), rfl, trivial⟩ | refine And.intro ?_ ?_)), fun _ _ => ⟨?_, ?_, fun _ => ⟨trivial, rfl⟩, fun h1 => ⟨fun _ => ⟨trivial, rfl⟩, fun h2 => ?_⟩⟩⟩
  · simp [BitVec.and_assoc]
  · simp
  obtain ⟨k0, k1⟩ := right128 h1
  obtain ⟨j0, _⟩ := right128 h2
  rw [of_covers k1 j0, cnt_mk k0 k1]
  refine ⟨by simp, fun h => ⟨?_, inR (by omega) (by omega), by simp, trivial, rfl⟩, fun h => ⟨?_, inR (by omega) (by omega), by simp, trivial, rfl⟩⟩
  · rw [Bool.not_eq_true'] at h
    rw [h]; simp
  · rw [Bool.not_eq_false'] at h
    rw [h]; simp

end Go.Proofs.Ythhckkollnnfeaa.L1
