/-
  Layer 4: the law WordMerges: its condition, its proof.
-/
import Derived.Test.YthhckkollnnfeaaL4C
import Derived.Test.YthhckkollnnfeaaL4I
namespace Go.Proofs.Ythhckkollnnfeaa.L1
open Go.Sx Go.Sx.M

noncomputable def l4jCs : List (FuncId × Sx.Spec) := [(19, awakeSpec),
  (12, genSpec [none, none] wmatchF),
  (23, genSpec [none] wfreeF),
  (21, genSpec [none, none] wmergeF),
  (22, genSpec [none, none] wmergeF)]

theorem l4jCs_ok : ∀ e ∈ l4jCs, SpecOK Try.prog e.1 e.2 := by
  intro e he
  simp only [l4jCs, List.mem_cons, List.not_mem_nil, or_false] at he
  rcases he with rfl | rfl | rfl | rfl | rfl
  · exact awake4_ok
  · exact wmatch_ok
  · exact wfree_ok
  · exact wmerge_ok
  · exact rwmerge_ok

noncomputable def merges_run_cut0 (v w m n c d p q a b : BitVec 64) : St := Go.Sx.St.mk [Go.Sx.AV.any, Go.Sx.AV.any, Go.Sx.AV.any, Go.Sx.AV.ptr (0 : Nat) (0 : Nat) (0 : Nat) Bool.true, Go.Sx.AV.ptr ((0 : Nat) + (1 : Nat)) (0 : Nat) (0 : Nat) Bool.true, Go.Sx.AV.ptr ((0 : Nat) + (1 : Nat) + (1 : Nat)) (0 : Nat) (0 : Nat) Bool.true, Go.Sx.AV.any, Go.Sx.AV.ptr ((0 : Nat) + (1 : Nat) + (1 : Nat) + (1 : Nat)) (0 : Nat) (0 : Nat) Bool.true, Go.Sx.AV.bool (Go.Sx.M.mgB v w m n c d p q), Go.Sx.AV.ptr ((0 : Nat) + (1 : Nat) + (1 : Nat) + (1 : Nat) + (1 : Nat)) (0 : Nat) (0 : Nat) Bool.true, Go.Sx.AV.bool (Go.Sx.M.mgB v w m n c d p q), Go.Sx.AV.any, Go.Sx.AV.any, Go.Sx.AV.any, Go.Sx.AV.any, Go.Sx.AV.any, Go.Sx.AV.any, Go.Sx.AV.any, Go.Sx.AV.any, Go.Sx.AV.any, Go.Sx.AV.any, Go.Sx.AV.any, Go.Sx.AV.any, Go.Sx.AV.any, Go.Sx.AV.any, Go.Sx.AV.any, Go.Sx.AV.any, Go.Sx.AV.any, Go.Sx.AV.any, Go.Sx.AV.any, Go.Sx.AV.any, Go.Sx.AV.any, Go.Sx.AV.any, Go.Sx.AV.any, Go.Sx.AV.any, Go.Sx.AV.any, Go.Sx.AV.any, Go.Sx.AV.any, Go.Sx.AV.any, Go.Sx.AV.any, Go.Sx.AV.any, Go.Sx.AV.any, Go.Sx.AV.any, Go.Sx.AV.any, Go.Sx.AV.any, Go.Sx.AV.any, Go.Sx.AV.any, Go.Sx.AV.any, Go.Sx.AV.any, Go.Sx.AV.any, Go.Sx.AV.any, Go.Sx.AV.any, Go.Sx.AV.any, Go.Sx.AV.any, Go.Sx.AV.any, Go.Sx.AV.any, Go.Sx.AV.any, Go.Sx.AV.any, Go.Sx.AV.any, Go.Sx.AV.any, Go.Sx.AV.any] [Option.some (Go.Sx.Blk.mk Bool.true (26 : Nat) (4 : Nat) Bool.true [Go.Sx.AV.agg [Go.Sx.AV.w64 v, Go.Sx.AV.w64 w, Go.Sx.AV.w64 m, Go.Sx.AV.w64 n]]), Option.some (Go.Sx.Blk.mk Bool.true (26 : Nat) (4 : Nat) Bool.true [Go.Sx.AV.agg [Go.Sx.AV.w64 c, Go.Sx.AV.w64 d, Go.Sx.AV.w64 p, Go.Sx.AV.w64 q]]), Option.some (Go.Sx.Blk.mk Bool.true (24 : Nat) (2 : Nat) Bool.true [Go.Sx.AV.agg [Go.Sx.AV.w64 a, Go.Sx.AV.w64 b]]), Option.some (Go.Sx.Blk.write (Go.Sx.Blk.mk Bool.true (26 : Nat) (4 : Nat) Bool.true [Go.Sx.AV.agg [Go.Sx.AV.lit (Go.Value.int Go.IntKind.u64 (0 : Int)), Go.Sx.AV.lit (Go.Value.int Go.IntKind.u64 (0 : Int)), Go.Sx.AV.lit (Go.Value.int Go.IntKind.u64 (0 : Int)), Go.Sx.AV.lit (Go.Value.int Go.IntKind.u64 (0 : Int))]]) (0 : Nat) (0 : Nat) (Go.Sx.AV.agg [Go.Sx.AV.w64 (Go.Sx.M.selW (Go.Sx.M.mgB v w m n c d p q) (v &&& (m ^^^ (v ^^^ c) &&& m))), Go.Sx.AV.w64 (Go.Sx.M.selW (Go.Sx.M.mgB v w m n c d p q) (w &&& (n ^^^ (w ^^^ d) &&& n))), Go.Sx.AV.w64 (Go.Sx.M.selW (Go.Sx.M.mgB v w m n c d p q) (m ^^^ (v ^^^ c) &&& m)), Go.Sx.AV.w64 (Go.Sx.M.selW (Go.Sx.M.mgB v w m n c d p q) (n ^^^ (w ^^^ d) &&& n))])), Option.some (Go.Sx.Blk.write (Go.Sx.Blk.mk Bool.true (28 : Nat) (4 : Nat) Bool.true [Go.Sx.AV.agg [Go.Sx.AV.lit (Go.Value.int Go.IntKind.u64 (0 : Int)), Go.Sx.AV.lit (Go.Value.int Go.IntKind.u64 (0 : Int)), Go.Sx.AV.lit (Go.Value.int Go.IntKind.u64 (0 : Int)), Go.Sx.AV.lit (Go.Value.int Go.IntKind.u64 (0 : Int))]]) (0 : Nat) (0 : Nat) (Go.Sx.AV.agg [Go.Sx.AV.w64 (Go.Sx.M.selW (Go.Sx.M.mgB v w m n c d p q) (v &&& (m ^^^ (v ^^^ c) &&& m))), Go.Sx.AV.w64 (Go.Sx.M.selW (Go.Sx.M.mgB v w m n c d p q) (w &&& (n ^^^ (w ^^^ d) &&& n))), Go.Sx.AV.w64 (Go.Sx.M.selW (Go.Sx.M.mgB v w m n c d p q) (m ^^^ (v ^^^ c) &&& m)), Go.Sx.AV.w64 (Go.Sx.M.selW (Go.Sx.M.mgB v w m n c d p q) (n ^^^ (w ^^^ d) &&& n))]))]

theorem merges_run (v w m n c d p q a b : BitVec 64) : run l4jCs Try.prog 5 [.agg [.w64 v, .w64 w, .w64 m, .w64 n], .agg [.w64 c, .w64 d, .w64 p, .w64 q], .agg [.w64 a, .w64 b]] [] [.cut 61 [3, 4, 5, 7, 8, 9, 10] (merges_run_cut0 v w m n c d p q a b) [], .br false, .br false, .fork [] [.fork [.br true, .nw, .br true] [.br true, .nw, .br true]]] isTrue =
    ((((((∃ (_ : Unit), (merges_run_cut0 v w m n c d p q a b) = (merges_run_cut0 v w m n c d p q a b) ∧ True) ∧ (∃ (_ : Unit), (merges_run_cut0 v w m n c d p q a b) = (merges_run_cut0 v w m n c d p q a b) ∧ True) ∧ ∃ (_ : Unit), (merges_run_cut0 v w m n c d p q a b) = (merges_run_cut0 v w m n c d p q a b) ∧ True) ∧ (∃ (_ : Unit), (merges_run_cut0 v w m n c d p q a b) = (merges_run_cut0 v w m n c d p q a b) ∧ True) ∧ ∃ (_ : Unit), (merges_run_cut0 v w m n c d p q a b) = (merges_run_cut0 v w m n c d p q a b) ∧ True) ∧ (∃ (_ : Unit), (merges_run_cut0 v w m n c d p q a b) = (merges_run_cut0 v w m n c d p q a b) ∧ True) ∧ ∃ (_ : Unit), (merges_run_cut0 v w m n c d p q a b) = (merges_run_cut0 v w m n c d p q a b) ∧ True) ∧ (∃ (_ : Unit), (merges_run_cut0 v w m n c d p q a b) = (merges_run_cut0 v w m n c d p q a b) ∧ True) ∧ ∃ (_ : Unit), (merges_run_cut0 v w m n c d p q a b) = (merges_run_cut0 v w m n c d p q a b) ∧ True) ∧ ∀ (_ : Unit), True → (!Go.Sx.M.mgB v w m n c d p q == Go.Sx.M.mgB v w m n c d p q) = Bool.false ∧ (!(Go.Sx.M.selW (Go.Sx.M.mgB v w m n c d p q) (v &&& (m ^^^ (v ^^^ c) &&& m)) == Go.Sx.M.selW (Go.Sx.M.mgB v w m n c d p q) (v &&& (m ^^^ (v ^^^ c) &&& m)) && Go.Sx.M.selW (Go.Sx.M.mgB v w m n c d p q) (w &&& (n ^^^ (w ^^^ d) &&& n)) == Go.Sx.M.selW (Go.Sx.M.mgB v w m n c d p q) (w &&& (n ^^^ (w ^^^ d) &&& n)) && (Go.Sx.M.selW (Go.Sx.M.mgB v w m n c d p q) (m ^^^ (v ^^^ c) &&& m) == Go.Sx.M.selW (Go.Sx.M.mgB v w m n c d p q) (m ^^^ (v ^^^ c) &&& m) && Go.Sx.M.selW (Go.Sx.M.mgB v w m n c d p q) (n ^^^ (w ^^^ d) &&& n) == Go.Sx.M.selW (Go.Sx.M.mgB v w m n c d p q) (n ^^^ (w ^^^ d) &&& n)))) = Bool.false ∧ ((!Go.Sx.M.mgB v w m n c d p q) = Bool.true → True ∧ Bool.true = Bool.true) ∧ ((!Go.Sx.M.mgB v w m n c d p q) = Bool.false → (Go.Sx.M.wmB v w m n a b = Bool.true → (Go.Sx.M.wmB (Go.Sx.M.selW (Go.Sx.M.mgB v w m n c d p q) (v &&& (m ^^^ (v ^^^ c) &&& m))) (Go.Sx.M.selW (Go.Sx.M.mgB v w m n c d p q) (w &&& (n ^^^ (w ^^^ d) &&& n))) (Go.Sx.M.selW (Go.Sx.M.mgB v w m n c d p q) (m ^^^ (v ^^^ c) &&& m)) (Go.Sx.M.selW (Go.Sx.M.mgB v w m n c d p q) (n ^^^ (w ^^^ d) &&& n)) a b == Bool.true) = Bool.true ∧ Go.Sx.inRange Go.IntKind.i64 ((↑(Go.Sx.M.cnt (64 : Nat) (BitVec.toNat (~~~m))) : Int) + (↑(Go.Sx.M.cnt (64 : Nat) (BitVec.toNat (~~~n))) : Int) + (1 : Int)) ∧ ((↑(Go.Sx.M.cnt (64 : Nat) (BitVec.toNat (~~~Go.Sx.M.selW (Go.Sx.M.mgB v w m n c d p q) (m ^^^ (v ^^^ c) &&& m)))) : Int) + (↑(Go.Sx.M.cnt (64 : Nat) (BitVec.toNat (~~~Go.Sx.M.selW (Go.Sx.M.mgB v w m n c d p q) (n ^^^ (w ^^^ d) &&& n)))) : Int) == (↑(Go.Sx.M.cnt (64 : Nat) (BitVec.toNat (~~~m))) : Int) + (↑(Go.Sx.M.cnt (64 : Nat) (BitVec.toNat (~~~n))) : Int) + (1 : Int)) = Bool.true ∧ True ∧ Bool.true = Bool.true) ∧ (Go.Sx.M.wmB v w m n a b = Bool.false → (Go.Sx.M.wmB (Go.Sx.M.selW (Go.Sx.M.mgB v w m n c d p q) (v &&& (m ^^^ (v ^^^ c) &&& m))) (Go.Sx.M.selW (Go.Sx.M.mgB v w m n c d p q) (w &&& (n ^^^ (w ^^^ d) &&& n))) (Go.Sx.M.selW (Go.Sx.M.mgB v w m n c d p q) (m ^^^ (v ^^^ c) &&& m)) (Go.Sx.M.selW (Go.Sx.M.mgB v w m n c d p q) (n ^^^ (w ^^^ d) &&& n)) a b == Go.Sx.M.wmB c d p q a b) = Bool.true ∧ Go.Sx.inRange Go.IntKind.i64 ((↑(Go.Sx.M.cnt (64 : Nat) (BitVec.toNat (~~~m))) : Int) + (↑(Go.Sx.M.cnt (64 : Nat) (BitVec.toNat (~~~n))) : Int) + (1 : Int)) ∧ ((↑(Go.Sx.M.cnt (64 : Nat) (BitVec.toNat (~~~Go.Sx.M.selW (Go.Sx.M.mgB v w m n c d p q) (m ^^^ (v ^^^ c) &&& m)))) : Int) + (↑(Go.Sx.M.cnt (64 : Nat) (BitVec.toNat (~~~Go.Sx.M.selW (Go.Sx.M.mgB v w m n c d p q) (n ^^^ (w ^^^ d) &&& n)))) : Int) == (↑(Go.Sx.M.cnt (64 : Nat) (BitVec.toNat (~~~m))) : Int) + (↑(Go.Sx.M.cnt (64 : Nat) (BitVec.toNat (~~~n))) : Int) + (1 : Int)) = Bool.true ∧ True ∧ Bool.true = Bool.true))) := by kernel_rfl

theorem cf_disj {f g h : Nat → Bool} : ∀ {N : Nat}, (∀ i, i < N → f i = (g i || h i) ∧ ¬ (g i = true ∧ h i = true)) → cf f N = cf g N + cf h N
  | 0, _ => rfl
  | N + 1, hh => by
    have ih := cf_disj (f := f) (g := g) (h := h) (N := N) fun i hi => hh i (by omega)
    obtain ⟨e1, e2⟩ := hh N (by omega)
    have a1 : cf f (N + 1) = cf f N + (if f N = true then 1 else 0) := rfl
    have a2 : cf g (N + 1) = cf g N + (if g N = true then 1 else 0) := rfl
    have a3 : cf h (N + 1) = cf h N + (if h N = true then 1 else 0) := rfl
    rw [a1, a2, a3, ih, e1]
    revert e2
    cases g N <;> cases h N <;> simp <;> omega

theorem mg_true {v w m n c d p q : BitVec 64} (h : mgB v w m n c d p q = true) : m = p ∧ n = q ∧ cf (mgD v w m n c d) 128 = 1 := by
  unfold mgB at h
  simp only [Bool.and_eq_true, beq_iff_eq] at h
  exact ⟨h.1.1, h.1.2, h.2⟩

/-- The bit at which they differ. -/
theorem mg_bit {v w m n c d p q : BitVec 64} (h : mgB v w m n c d p q = true) : ∃ j, j < 128 ∧ mgD v w m n c d j = true ∧ ∀ i, i < 128 → i ≠ j → mgD v w m n c d i = false := by
  obtain ⟨_, _, h1⟩ := mg_true h
  obtain ⟨j, hj, hD⟩ := cf_pos (f := mgD v w m n c d) (N := 128) (by omega)
  refine ⟨j, hj, hD, fun i hi hne => ?_⟩
  cases hh : mgD v w m n c d i with
  | false => rfl
  | true =>
    rcases Nat.lt_or_gt_of_ne hne with hl | hl
    · have := cf_two hl hj hh hD; omega
    · have := cf_two hl hi hD hh; omega

theorem merge_match {v w m n c d p q a b : BitVec 64} (h : mgB v w m n c d p q = true) :
    wmB (v &&& (m ^^^ (v ^^^ c) &&& m)) (w &&& (n ^^^ (w ^^^ d) &&& n)) (m ^^^ (v ^^^ c) &&& m) (n ^^^ (w ^^^ d) &&& n) a b = (wmB v w m n a b || wmB c d p q a b) := by
  obtain ⟨rfl, rfl, _⟩ := mg_true h
  obtain ⟨j, hj, hD, hu⟩ := mg_bit h
  have eD := fun i => mgD_eq v w m n c d i
  have hm : ∀ i, bitAt (m ^^^ (v ^^^ c) &&& m) (n ^^^ (w ^^^ d) &&& n) i = (bitAt m n i ^^ mgD v w m n c d i) := fun i => by rw [bitAt_xor]; rfl
  rw [Bool.eq_iff_iff, Bool.or_eq_true, wmB_iff, wmB_iff, wmB_iff]
  have hDj := eD j
  rw [hD] at hDj
  have hmj : bitAt m n j = true := (Bool.and_eq_true_iff.1 hDj.symm).1
  have hvj : (!bitAt v w j == bitAt c d j) = true := (Bool.and_eq_true_iff.1 hDj.symm).2
  refine ⟨fun hz => ?_, fun hz i hi hmi => ?_⟩
  · have same : ∀ i, i < 128 → i ≠ j → bitAt m n i = true → bitAt v w i = bitAt a b i ∧ bitAt c d i = bitAt a b i := fun i hi hne hmi => by
      have h1 := hz i hi
      have h2 := hu i hi hne
      rw [hm, bitAt_and, hm, h2, hmi] at h1
      have h3 := eD i
      rw [h2, hmi] at h3
      have h4 : bitAt v w i = bitAt a b i := by simpa using h1
      refine ⟨h4, ?_⟩
      rw [← h4]
      revert h3
      cases bitAt v w i <;> cases bitAt c d i <;> simp
    by_cases hx : bitAt v w j = bitAt a b j
    · left
      intro i hi hmi
      by_cases hij : i = j
      · rw [hij]; exact hx
      · exact (same i hi hij hmi).1
    · right
      intro i hi hmi
      by_cases hij : i = j
      · rw [hij]
        revert hx hvj
        cases bitAt v w j <;> cases bitAt c d j <;> cases bitAt a b j <;> simp
      · exact (same i hi hij hmi).2
  · rw [hm] at hmi
    by_cases hij : i = j
    · rw [hij, hD, hmj] at hmi; cases hmi
    · have h2 := hu i hi hij
      rw [h2, Bool.xor_false] at hmi
      rw [bitAt_and, hm, h2, hmi]
      have h3 := eD i
      rw [h2, hmi] at h3
      rcases hz with hz | hz
      · rw [← hz i hi hmi]; simp
      · rw [← hz i hi hmi]
        revert h3
        cases bitAt v w i <;> cases bitAt c d i <;> simp

theorem merge_free {v w m n c d p q : BitVec 64} (h : mgB v w m n c d p q = true) :
    (cnt 64 (~~~(m ^^^ (v ^^^ c) &&& m)).toNat : Int) + cnt 64 (~~~(n ^^^ (w ^^^ d) &&& n)).toNat = (cnt 64 (~~~m).toNat : Int) + cnt 64 (~~~n).toNat + 1 := by
  obtain ⟨_, _, h1⟩ := mg_true h
  have hm : ∀ i, bitAt (m ^^^ (v ^^^ c) &&& m) (n ^^^ (w ^^^ d) &&& n) i = (bitAt m n i ^^ mgD v w m n c d i) := fun i => by rw [bitAt_xor]; rfl
  have e := cf_disj (f := bitAt m n) (g := bitAt (m ^^^ (v ^^^ c) &&& m) (n ^^^ (w ^^^ d) &&& n)) (h := mgD v w m n c d) (N := 128) fun i _ => by
    rw [hm, mgD_eq]
    cases bitAt m n i <;> cases bitAt v w i <;> cases bitAt c d i <;> simp
  have c1 := cnt_not m n
  have c2 := cnt_not (m ^^^ (v ^^^ c) &&& m) (n ^^^ (w ^^^ d) &&& n)
  have w1 := cnt_words m n
  have w2 := cnt_words (m ^^^ (v ^^^ c) &&& m) (n ^^^ (w ^^^ d) &&& n)
  omega

theorem merges_law (v w m n c d p q a b : BitVec 64) : ∃ hs, run l4jCs Try.prog 5 [.agg [.w64 v, .w64 w, .w64 m, .w64 n], .agg [.w64 c, .w64 d, .w64 p, .w64 q], .agg [.w64 a, .w64 b]] [] hs isTrue := by
  refine ⟨[.cut 61 [3, 4, 5, 7, 8, 9, 10] (merges_run_cut0 v w m n c d p q a b) [], .br false, .br false, .fork [] [.fork [.br true, .nw, .br true] [.br true, .nw, .br true]]], ?_⟩
  rw [merges_run]
  refine ⟨(by repeat' (first | exact ⟨(), rfl, trivial⟩ | refine And.intro ?_ ?_)), fun _ _ => ⟨by simp, by simp, fun _ => ⟨trivial, rfl⟩, fun h => ?_⟩⟩
  have hg : mgB v w m n c d p q = true := by simpa only [Bool.not_eq_false'] using h
  have mm := merge_match (a := a) (b := b) hg
  have mf := merge_free hg
  have c1 := cnt_not m n
  simp only [hg, selW, if_true]
  have i1 : inRange .i64 ((cnt 64 (~~~m).toNat : Int) + cnt 64 (~~~n).toNat + 1) := inR (by omega) (by omega)
  refine ⟨fun hx => ⟨?_, i1, by rw [beq_iff_eq]; exact mf, by trivial⟩, fun hx => ⟨?_, i1, by rw [beq_iff_eq]; exact mf, by trivial⟩⟩
  · rw [mm, hx]; rfl
  · rw [mm, hx, Bool.false_or, beq_self_eq_true]

end Go.Proofs.Ythhckkollnnfeaa.L1
