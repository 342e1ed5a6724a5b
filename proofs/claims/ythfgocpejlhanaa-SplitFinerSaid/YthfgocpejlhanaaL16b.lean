/-
  Texts in one: L16P L16Q.
-/
import Derived.Test.YthfgocpejlhanaaL16a
import Derived.Test.YthfgocpejlhanaaL5a
import Derived.Test.YthfgocpejlhanaaL4a
import Derived.Test.YthfgocpejlhanaaMa

section
/-
  Layer 16: contracts of the program's calls.
-/
namespace Go.Proofs.Ythfgocpejlhanaa.L1
open Go.Sx Go.Sx.M

/-- The word that matches a bank's addresses: its value. -/
def whV (k j : Int) : BitVec 64 := BitVec.ofInt 64 j <<< (64 - k).toNat &&& mkW k &&& mkW k
def whW (k : Int) : BitVec 64 := BitVec.ofInt 64 0 &&& mkW (k - 64) &&& mkW (k - 64)

theorem wh_ok {k : Int} (hr : rtI k = true) {j : Nat} (v w m n : BitVec 64) : wtB v w m n (whV k j) (whW k) (mkW k) (mkW (k - 64)) = okI k.toNat v m j := by
  obtain ⟨h0, h3⟩ := rtI_iff.1 hr
  obtain ⟨t, rfl⟩ := Int.eq_ofNat_of_zero_le h0
  have e : (64 - (t : Int)).toNat = 64 - t := by omega
  have hB : FixW (whV t j) (whW t) (mkW t) (mkW ((t : Int) - 64)) t j := fun i hi => by
    unfold whV whW
    rw [bitAt_mk _ hi, bitAt_cut _ _ _ hi, bitAt_cut _ _ _ hi, decide_eq_true_eq]
    refine ⟨by omega, fun hik => ?_⟩
    rw [decide_eq_true (by omega), Bool.and_true, Bool.and_true, bitAt_first (by omega), BitVec.ofInt_natCast, e, up_bit (by omega) hik, decide_eq_true (by omega), Bool.true_and]
  rw [Int.toNat_natCast, Bool.eq_iff_iff]
  refine ⟨fun h => okI_iff.2 fun i hi hm => ?_, fun h => fix_meet (by omega) hB h⟩
  have := wtB_iff.1 h i (by omega) (by rw [bitAt_first (by omega)]; exact hm) ((hB i (by omega)).1.2 hi)
  rw [bitAt_first (by omega), (hB i (by omega)).2 hi] at this
  exact this

def gwhole16F : List Arg → (Res → Prop) → Prop
  | [.v (.int .i64 k), .v (.int .i64 j)], R => rtI k = true ∧ 0 ≤ j ∧ R (.v (.agg [.w64 (whV k j), .w64 (whW k), .w64 (mkW k), .w64 (mkW (k - 64))]))
  | _, _ => False

def gb16St (k : Int) (v w m n : BitVec 64) (p : Nat) : St :=
  ⟨[.int .i64 k, .any, .any, .ptr 0 0 0 true, .any, .vsl 1 0 (bk16R k v m p).length, .any, .any, .int .i64 (mnI k), .int .i64 p, .any, .any, .any, .any, .any, .any, .any, .any, .any, .any, .any, .any, .any], [some ⟨true, 26, 4, true, [.agg [.w64 v, .w64 w, .w64 m, .w64 n]]⟩, some ⟨true, 3, 1, true, bk16R k v m p⟩]⟩
def gb16M0 : Modes := ⟨[1, 0, 0, 1, 0, 1, 0, 0, 1, 2, 0, 0, 0, 0, 0, 0, 0, 0, 0, 0, 0, 0, 0], [], [], [], [(5, 3, 1)]⟩
def gb16M : Modes := ⟨[1, 0, 0, 1, 0, 1, 0, 0, 1, 1, 0, 0, 0, 0, 0, 0, 0, 0, 0, 0, 0, 0, 0], [], [], [], []⟩
def gb16M' : Modes := ⟨[0, 0, 0, 0, 0, 1, 0, 0, 0, 0, 0, 0, 0, 0, 0, 0, 0, 0, 0, 0, 0, 0, 0], [], [], [], []⟩
def gb16H (k : Int) (v w m n : BitVec 64) : List Hint := [.linv _ 0 (gb16St k v w m n) (fun p => p ≤ (mnI k).toNat) (fun p => (mnI k).toNat + 1 - p) gb16M0 gb16M gb16M' (fun _ => []) fun p =>
  [.fork [.fork [.rows (bk16R k v m (p + 1)), .nw] [.nw]] []]]

def gp16R (k j : Int) (l : List En) (i : Nat) : List AV := (ptI k j (l.take i)).map enE
def gp16St (k j : Int) (l : List En) (i : Nat) : St :=
  ⟨[.any, .any, .any, .any, .any, .any, .any, .vsl 2 0 (gp16R k j l i).length, .ptr 1 0 0 true, .any, .any, .any, .any, .any, .any, .any, .any, .any, .any, .any, .any, .any, .vsl 0 0 (l.map enE).length, .int .i64 (l.map enE).length, .int .i64 i, .any, .any, .any, .any, .any, .any, .any, .any, .any, .any, .any, .any, .any], [some ⟨false, 48, 6, true, l.map enE⟩, some ⟨true, 26, 4, true, [.agg [.w64 (whV k j), .w64 (whW k), .w64 (mkW k), .w64 (mkW (k - 64))]]⟩, some ⟨true, 48, 6, true, gp16R k j l i⟩]⟩
def gp16M0 : Modes := ⟨[0, 0, 0, 0, 0, 0, 0, 1, 1, 0, 0, 0, 0, 0, 0, 0, 0, 0, 0, 0, 0, 0, 1, 1, 2, 0, 0, 0, 0, 0, 0, 0, 0, 0, 0, 0, 0, 0], [], [], [], [(7, 48, 6)]⟩
def gp16M : Modes := ⟨[0, 0, 0, 0, 0, 0, 0, 1, 1, 0, 0, 0, 0, 0, 0, 0, 0, 0, 0, 0, 0, 0, 1, 1, 1, 0, 0, 0, 0, 0, 0, 0, 0, 0, 0, 0, 0, 0], [], [1, 8], [], []⟩
def gp16M' : Modes := ⟨[0, 0, 0, 0, 0, 0, 0, 1, 0, 0, 0, 0, 0, 0, 0, 0, 0, 0, 0, 0, 0, 0, 0, 0, 0, 0, 0, 0, 0, 0, 0, 0, 0, 0, 0, 0, 0, 0], [], [], [], []⟩
def gp16H (k j : Int) (l : List En) : List Hint := [.fork [] [.fork [] [.linv _ 0 (gp16St k j l) (fun i => i ≤ l.length) (fun i => l.length + 1 - i) gp16M0 gp16M gp16M' (fun _ => []) fun i =>
  [.fork [.dy, .cell (enE (at' l i)), .fork [.rows (gp16R k j l (i + 1)), .nw] [.nw]] []]]]]

theorem cpI_none {k : Int} (h : rtI k = false) : ∀ l : List En, cpI k l = 0
  | [] => rfl
  | x :: l => by
    have ih := cpI_none h l
    have h1 : cpI k (x :: l) = max (((bkI k x.v x.m).length : Int) - 1) 0 + cpI k l := rfl
    have h2 : bkI k x.v x.m = [] := by
      unfold bkI
      rw [h]
      rfl
    rw [h1, h2, ih]
    rfl

def gc16St (k : Int) (l : List En) (i : Nat) : St :=
  ⟨[.int .i64 k, .any, .any, .any, .any, .int .i64 (cpI k (l.take i)), .any, .any, .any, .any, .any, .vsl 0 0 (l.map enE).length, .int .i64 (l.map enE).length, .int .i64 i, .any, .any, .any, .any, .any, .any, .any, .any, .any, .any, .any, .any, .any], [some ⟨false, 48, 6, true, l.map enE⟩]⟩
def gc16M0 : Modes := ⟨[1, 0, 0, 0, 0, 2, 0, 0, 0, 0, 0, 1, 1, 2, 0, 0, 0, 0, 0, 0, 0, 0, 0, 0, 0, 0, 0], [], [], [], []⟩
def gc16M : Modes := ⟨[1, 0, 0, 0, 0, 1, 0, 0, 0, 0, 0, 1, 1, 1, 0, 0, 0, 0, 0, 0, 0, 0, 0, 0, 0, 0, 0], [], [], [], []⟩
def gc16M' : Modes := ⟨[0, 0, 0, 0, 0, 1, 0, 0, 0, 0, 0, 0, 0, 0, 0, 0, 0, 0, 0, 0, 0, 0, 0, 0, 0, 0, 0], [], [], [], []⟩
def gc16H (k : Int) (l : List En) : List Hint := [.fork [] [.linv _ 0 (gc16St k l) (fun i => i ≤ l.length) (fun i => l.length + 1 - i) gc16M0 gc16M gc16M' (fun _ => []) fun i =>
  [.fork [.dy, .cell (enE (at' l i)), .nm (bq16R k (at' l i)), .nw, .nw, .nw] []]]]

theorem gright16_run (k : Int) (r : AV) : run [] Try.prog 13 [.int .i64 k] [] [.fork [] []] (yields (.v r)) =
    ((Decidable.decide ((0 : Int) ≤ k) = true → AV.bool (Decidable.decide (k ≤ (3 : Int))) = r) ∧ (Decidable.decide ((0 : Int) ≤ k) = false → AV.bool false = r)) := by kernel_rfl

theorem gright16_ok : SpecOK Try.prog 13 (genSpec [none] gright16F) := by
  refine genSpec_ok none_ok fun l R hF => ?_
  unfold gright16F at hF
  split at hF
  · rename_i k
    refine ⟨_, hF, rfl, [.fork [] []], ?_⟩
    show run [] Try.prog _ [.int .i64 k] [] _ _
    rw [gright16_run]
    refine ⟨fun h => ?_, fun h => ?_⟩
    · have h : 0 ≤ k := of_decide_eq_true h
      unfold rtI
      rw [decide_eq_true h, Bool.true_and]
    · have h : ¬ 0 ≤ k := of_decide_eq_false h
      rw [notTT2 rtI_iff fun hh => h hh.1]
  · exact hF.elim


noncomputable def gmany16Cs : List (FuncId × Sx.Spec) := [(13, genSpec [none] gright16F)]

theorem gmany16_run (k : Int) (r : AV) : run gmany16Cs Try.prog 12 [.int .i64 k] [] [.fork [] [.nw]] (yields (.v r)) =
    (((!rtI k) = true → AV.int IntKind.i64 (0 : Int) = r) ∧ ((!rtI k) = false → (0 : Int) ≤ k ∧ inRange IntKind.i64 ((1 : Int) * (2 : Int) ^ Min.min (Int.toNat k) (64 : Nat)) ∧ AV.int IntKind.i64 ((1 : Int) * (2 : Int) ^ Min.min (Int.toNat k) (64 : Nat)) = r)) := by kernel_rfl

theorem gmany16Cs_ok : ∀ e ∈ gmany16Cs, SpecOK Try.prog e.1 e.2 := by
  intro e he
  simp only [gmany16Cs, List.mem_cons, List.not_mem_nil, or_false] at he
  rcases he with rfl
  · exact gright16_ok

theorem gmany16_ok : SpecOK Try.prog 12 (genSpec [none] gmany16F) := by
  refine genSpec_ok (run_ok (l := gmany16Cs) gmany16Cs_ok mixed noNG) fun l R hF => ?_
  unfold gmany16F at hF
  split at hF
  · rename_i k
    refine ⟨_, hF, rfl, [.fork [] [.nw]], ?_⟩
    show run gmany16Cs Try.prog _ [.int .i64 k] [] _ _
    rw [gmany16_run]
    refine ⟨fun h => ?_, fun h => ?_⟩
    · rw [mnI_none (notTT h)]
    · have hr := rtI_iff.1 (notF h)
      rcases (show k = 0 ∨ k = 1 ∨ k = 2 ∨ k = 3 by omega) with rfl | rfl | rfl | rfl
      all_goals exact ⟨by decide, inR (by decide) (by decide), congrArg (AV.int .i64) (by decide)⟩
  · exact hF.elim


noncomputable def gof16Cs : List (FuncId × Sx.Spec) := [(13, genSpec [none] gright16F)]

theorem gof16_run (k : Int) (a b : BitVec 64) (r : AV) : run gof16Cs Try.prog 14 [.int .i64 k, .agg [.w64 a, .w64 b]] [] [.fork [] [.nw]] (yields (.v r)) =
    (((!rtI k) = true → AV.int IntKind.i64 (0 : Int) = r) ∧ ((!rtI k) = false → inRange IntKind.i64 ((64 : Int) - k) ∧ (0 : Int) ≤ (64 : Int) - k ∧ AV.int IntKind.i64 (IntKind.wrap IntKind.i64 (↑(BitVec.toNat (a >>> Int.toNat ((64 : Int) - k))) : Int)) = r)) := by kernel_rfl

theorem gof16Cs_ok : ∀ e ∈ gof16Cs, SpecOK Try.prog e.1 e.2 := by
  intro e he
  simp only [gof16Cs, List.mem_cons, List.not_mem_nil, or_false] at he
  rcases he with rfl
  · exact gright16_ok

theorem gof16_ok : SpecOK Try.prog 14 (genSpec [none, none] gof16F) := by
  refine genSpec_ok (run_ok (l := gof16Cs) gof16Cs_ok mixed noNG) fun l R hF => ?_
  unfold gof16F at hF
  split at hF
  · rename_i k a b
    refine ⟨_, hF, rfl, [.fork [] [.nw]], ?_⟩
    show run gof16Cs Try.prog _ [.int .i64 k, .agg [.w64 a, .w64 b]] [] _ _
    rw [gof16_run]
    refine ⟨fun h => ?_, fun h => ?_⟩
    · unfold ofI
      rw [notTT h]
      rfl
    · have hr0 := notF h
      have hr := rtI_iff.1 hr0
      refine ⟨inR (by omega) (by omega), by omega, congrArg (AV.int .i64) ?_⟩
      have e : (64 - k).toNat = 64 - k.toNat := by omega
      have h1 := ofN_lt a k.toNat
      have h2 := pow_le (show k.toNat ≤ 3 by omega)
      rw [e, sh_of a (by omega), wrap_small _ (by omega) (by omega)]
      unfold ofI
      rw [if_pos hr0]
  · exact hF.elim


noncomputable def gwhole16Cs : List (FuncId × Sx.Spec) := [(26, genSpec [none, none] makeF),
  (25, genSpec [none] wofF)]

theorem gwhole16_run (k j : Int) (r : AV) : run gwhole16Cs Try.prog 31 [.int .i64 k, .int .i64 j] [] [.nw] (yields (.v r)) =
    (inRange IntKind.i64 ((64 : Int) - k) ∧ (0 : Int) ≤ (64 : Int) - k ∧ AV.agg [AV.w64 (BitVec.ofInt (64 : Nat) j <<< Int.toNat ((64 : Int) - k) &&& mkW k &&& mkW (clamp k)), AV.w64 (BitVec.ofInt (64 : Nat) (0 : Int) &&& mkW (k - (64 : Int)) &&& mkW (clamp k - (64 : Int))), AV.w64 (mkW (clamp k)), AV.w64 (mkW (clamp k - (64 : Int)))] = r) := by kernel_rfl

theorem gwhole16Cs_ok : ∀ e ∈ gwhole16Cs, SpecOK Try.prog e.1 e.2 := by
  intro e he
  simp only [gwhole16Cs, List.mem_cons, List.not_mem_nil, or_false] at he
  rcases he with rfl | rfl
  · exact pmake_ok
  · exact wof_ok

theorem gwhole16_ok : SpecOK Try.prog 31 (genSpec [none, none] gwhole16F) := by
  refine genSpec_ok (run_ok (l := gwhole16Cs) gwhole16Cs_ok mixed noNG) fun l R hF => ?_
  unfold gwhole16F at hF
  split at hF
  · rename_i k j
    obtain ⟨hr, hj0, hF⟩ := hF
    refine ⟨_, hF, rfl, [.nw], ?_⟩
    show run gwhole16Cs Try.prog _ [.int .i64 k, .int .i64 j] [] _ _
    rw [gwhole16_run]
    have hk := rtI_iff.1 hr
    refine ⟨inR (by omega) (by omega), by omega, ?_⟩
    rw [(mkW_clamp k).1, (mkW_clamp k).2]
    rfl
  · exact hF.elim


noncomputable def gbanks16Cs : List (FuncId × Sx.Spec) := [(12, genSpec [none] gmany16F),
  (31, genSpec [none, none] gwhole16F),
  (30, genSpec [none, none] wmeetF)]

theorem gbanks16_run (k : Int) (v w m n : BitVec 64) : run gbanks16Cs Try.prog 9 [.int .i64 k, .agg [.w64 v, .w64 w, .w64 m, .w64 n]] [] (gb16H k v w m n) (yields (.vrow 3 1 ((bkI k v m).map inA))) =
    ((St.mk [AV.int IntKind.i64 k, AV.any, AV.any, AV.ptr (0 : Nat) (0 : Nat) (0 : Nat) true, AV.any, AV.vsl (List.length [some (Blk.mk true (26 : Nat) (4 : Nat) true [AV.agg [AV.w64 v, AV.w64 w, AV.w64 m, AV.w64 n]])]) (0 : Nat) (0 : Nat), AV.any, AV.any, AV.int IntKind.i64 (mnI k), AV.int IntKind.i64 (0 : Int), AV.any, AV.any, AV.any, AV.any, AV.any, AV.any, AV.any, AV.any, AV.any, AV.any, AV.any, AV.any, AV.any] ([some (Blk.mk true (26 : Nat) (4 : Nat) true [AV.agg [AV.w64 v, AV.w64 w, AV.w64 m, AV.w64 n]])] ++ [some (Blk.mk true (3 : TypeId) (1 : Nat) true [])]) = gb16St k v w m n (0 : Nat) ∧ Nat.le (0 : Nat) (Int.toNat (mnI k))) ∧ ∀ (p : Nat), Nat.le p (Int.toNat (mnI k)) → (Decidable.decide ((↑p : Int) < mnI k) = true → rtI k = true ∧ (0 : Int) ≤ (↑p : Int) ∧ (wtB v w m n (whV k (↑p : Int)) (whW k) (mkW k) (mkW (k - (64 : Int))) = true → ((List.length (bk16R k v m p) + (1 : Nat)) * (8 : Nat) ≤ (140737488355328 : Nat) ∧ List.length (bk16R k v m p) + (1 : Nat) ≤ (9223372036854775807 : Nat) ∧ (0 : Nat) + (1 : Nat) ≤ List.length [AV.int IntKind.i64 (↑p : Int)] ∧ List.length (bk16R k v m p) ≤ List.length (List.map inA (List.map Int.ofNat (bkU (Int.toNat k) v m p)))) ∧ List.take (List.length (bk16R k v m p)) (List.map inA (List.map Int.ofNat (bkU (Int.toNat k) v m p))) ++ [AV.int IntKind.i64 (↑p : Int)] = bk16R k v m (p + (1 : Nat)) ∧ inRange IntKind.i64 ((↑p : Int) + (1 : Int)) ∧ ∃ (p' : Nat), St.mk [AV.int IntKind.i64 k, AV.any, AV.any, AV.ptr (0 : Nat) (0 : Nat) (0 : Nat) true, AV.any, AV.vsl ((0 : Nat) + (1 : Nat)) (0 : Nat) (List.length (bk16R k v m p) + (1 : Nat)), AV.any, AV.any, AV.int IntKind.i64 (mnI k), AV.int IntKind.i64 ((↑p : Int) + (1 : Int)), AV.any, AV.any, AV.any, AV.any, AV.any, AV.any, AV.any, AV.any, AV.any, AV.any, AV.any, AV.any, AV.any] [some (Blk.mk true (26 : TypeId) (4 : Nat) true [AV.agg [AV.w64 v, AV.w64 w, AV.w64 m, AV.w64 n]]), some (Blk.mk true (3 : Nat) (1 : Nat) true (bk16R k v m (p + (1 : Nat))))] = gb16St k v w m n p' ∧ Nat.le p' (Int.toNat (mnI k)) ∧ Int.toNat (mnI k) + (1 : Nat) - p' < Int.toNat (mnI k) + (1 : Nat) - p) ∧ (wtB v w m n (whV k (↑p : Int)) (whW k) (mkW k) (mkW (k - (64 : Int))) = false → inRange IntKind.i64 ((↑p : Int) + (1 : Int)) ∧ ∃ (p' : Nat), St.mk [AV.int IntKind.i64 k, AV.any, AV.any, AV.ptr (0 : Nat) (0 : Nat) (0 : Nat) true, AV.any, AV.vsl ((0 : Nat) + (1 : Nat)) (0 : Nat) (List.length (bk16R k v m p)), AV.any, AV.any, AV.int IntKind.i64 (mnI k), AV.int IntKind.i64 ((↑p : Int) + (1 : Int)), AV.any, AV.any, AV.any, AV.any, AV.any, AV.any, AV.any, AV.any, AV.any, AV.any, AV.any, AV.any, AV.any] [some (Blk.mk true (26 : TypeId) (4 : Nat) true [AV.agg [AV.w64 v, AV.w64 w, AV.w64 m, AV.w64 n]]), some (Blk.mk true (3 : TypeId) (1 : Nat) true (bk16R k v m p))] = gb16St k v w m n p' ∧ Nat.le p' (Int.toNat (mnI k)) ∧ Int.toNat (mnI k) + (1 : Nat) - p' < Int.toNat (mnI k) + (1 : Nat) - p)) ∧ (Decidable.decide ((↑p : Int) < mnI k) = false → List.length (bk16R k v m p) = List.length (List.map inA (bkI k v m)) ∧ some (Blk.mk true (3 : TypeId) (1 : Nat) true (bk16R k v m p)) = some (Blk.mk true (3 : TypeId) (1 : Nat) true (List.map inA (bkI k v m))))) := by kernel_rfl

theorem gbanks16Cs_ok : ∀ e ∈ gbanks16Cs, SpecOK Try.prog e.1 e.2 := by
  intro e he
  simp only [gbanks16Cs, List.mem_cons, List.not_mem_nil, or_false] at he
  rcases he with rfl | rfl | rfl
  · exact gmany16_ok
  · exact gwhole16_ok
  · exact wmeet_ok

theorem gbanks16_ok : SpecOK Try.prog 9 (genSpec [none, none] gbanks16F) := by
  refine genSpec_ok (run_ok (l := gbanks16Cs) gbanks16Cs_ok mixed noNG) fun l R hF => ?_
  unfold gbanks16F at hF
  split at hF
  · rename_i k v w m n
    refine ⟨_, hF, trivial, (gb16H k v w m n), ?_⟩
    show run gbanks16Cs Try.prog _ [.int .i64 k, .agg [.w64 v, .w64 w, .w64 m, .w64 n]] [] _ _
    rw [gbanks16_run]
    refine ⟨⟨rfl, Nat.zero_le _⟩, ?_⟩
    intro p (hp : p ≤ _)
    have hlen : (bk16R k v m p).length ≤ p := by
      unfold bk16R
      rw [List.length_map, List.length_map]
      exact bkU_length _ _ _ _
    refine ⟨fun hlt => ?_, fun hge => ?_⟩
    · have hlt := of_decide_eq_true hlt
      have hr := mn_rt (Int.natCast_nonneg p) hlt
      have h8 := mn_le hr
      have hmn := mnI_nat hr
      rw [wh_ok hr]
      refine ⟨hr, Int.natCast_nonneg p, fun ho => ?_, fun ho => ?_⟩
      · have hb : bk16R k v m (p + 1) = bk16R k v m p ++ [AV.int .i64 (p : Int)] := by
          unfold bk16R
          rw [bkU_succ, if_pos ho, List.map_append, List.map_append]
          rfl
        refine ⟨⟨by omega, by omega, Nat.le_refl _, Nat.le_refl _⟩, ?_, inR (by omega) (by omega), p + 1, ?_, by show p + 1 ≤ _; omega, by omega⟩
        · rw [hb]
          exact congrArg (· ++ [AV.int .i64 (p : Int)]) (List.take_length)
        · unfold gb16St
          rw [hb, List.length_append]
          rfl
      · have hb : bk16R k v m (p + 1) = bk16R k v m p := by
          unfold bk16R
          rw [bkU_succ, if_neg (by rw [ho]; exact Bool.false_ne_true), List.append_nil]
        refine ⟨inR (by omega) (by omega), p + 1, ?_, by show p + 1 ≤ _; omega, by omega⟩
        unfold gb16St
        rw [hb]
        rfl
    · have hge := of_decide_eq_false hge
      have e : p = (mnI k).toNat := by omega
      have hb : bk16R k v m p = List.map inA (bkI k v m) := by
        unfold bk16R bkI
        cases hr : rtI k with
        | true =>
          rw [e, mnI_nat hr, Int.toNat_natCast]
          rfl
        | false =>
          rw [e, mnI_none hr]
          rfl
      rw [hb]
      exact ⟨rfl, rfl⟩
  · exact hF.elim


noncomputable def gpart16Cs : List (FuncId × Sx.Spec) := [(12, genSpec [none] gmany16F),
  (31, genSpec [none, none] gwhole16F),
  (30, genSpec [none, none] wmeetF)]

theorem gpart16_run (k j : Int) (l : List En) : run gpart16Cs Try.prog 18 [.int .i64 k, .int .i64 j, .vsl 0 0 (l.map enE).length] [some ⟨false, (pEn.getD (0, 0)).1, (pEn.getD (0, 0)).2, true, (l.map enE)⟩] (gp16H k j l) (yields (.vrow 48 6 ((ptI k j l).map enE))) =
    ((Decidable.decide (j < (0 : Int)) = true → List.map enE (ptI k j l) = []) ∧ (Decidable.decide (j < (0 : Int)) = false → (Decidable.decide (j ≥ mnI k) = true → List.map enE (ptI k j l) = []) ∧ (Decidable.decide (j ≥ mnI k) = false → rtI k = true ∧ (0 : Int) ≤ j ∧ (St.mk [AV.any, AV.any, AV.any, AV.any, AV.any, AV.any, AV.any, AV.vsl (List.length [some (Blk.mk false (48 : TypeId) (6 : Nat) true (List.map enE l)), some (Blk.mk true (nat_lit 26) (4 : Nat) true [AV.agg [AV.w64 (whV k j), AV.w64 (whW k), AV.w64 (mkW k), AV.w64 (mkW (k - (64 : Int)))]])]) (0 : Nat) (0 : Nat), AV.ptr ((0 : Nat) + (1 : Nat)) (0 : Nat) (0 : Nat) true, AV.any, AV.any, AV.any, AV.any, AV.any, AV.any, AV.any, AV.any, AV.any, AV.any, AV.any, AV.any, AV.any, AV.vsl (0 : Nat) (0 : Nat) (List.length (List.map enE l)), AV.int IntKind.i64 (↑(List.length (List.map enE l)) : Int), AV.int IntKind.i64 (0 : Int), AV.any, AV.any, AV.any, AV.any, AV.any, AV.any, AV.any, AV.any, AV.any, AV.any, AV.any, AV.any, AV.any] ([some (Blk.mk false (48 : TypeId) (6 : Nat) true (List.map enE l)), some (Blk.mk true (nat_lit 26) (4 : Nat) true [AV.agg [AV.w64 (whV k j), AV.w64 (whW k), AV.w64 (mkW k), AV.w64 (mkW (k - (64 : Int)))]])] ++ [some (Blk.mk true (48 : TypeId) (6 : Nat) true [])]) = gp16St k j l (0 : Nat) ∧ Nat.le (0 : Nat) (List.length l)) ∧ ∀ (p : Nat), Nat.le p (List.length l) → (Decidable.decide ((↑p : Int) < (↑(List.length (List.map enE l)) : Int)) = true → ((0 : Int) ≤ (↑p : Int) ∧ (↑p : Int) < (↑(List.length (List.map enE l)) : Int)) ∧ Blk.read Proofs.Try.prog (Blk.mk false (48 : TypeId) (6 : Nat) true (List.map enE l)) (48 : Nat) ((0 : Nat) + Int.toNat (↑p : Int)) (0 : Nat) = some (AV.agg [AV.w64 (at' l p).1, AV.w64 (at' l p).2, AV.w64 (at' l p).3, AV.w64 (at' l p).4, AV.int IntKind.i64 (at' l p).5, AV.int IntKind.i64 (at' l p).6]) ∧ (wtB (at' l p).1 (at' l p).2 (at' l p).3 (at' l p).4 (whV k j) (whW k) (mkW k) (mkW (k - (64 : Int))) = true → ((List.length (gp16R k j l p) + (1 : Nat)) * (48 : Nat) ≤ (140737488355328 : Nat) ∧ List.length (gp16R k j l p) + (1 : Nat) ≤ (9223372036854775807 : Nat) ∧ (0 : Nat) + (1 : Nat) ≤ List.length [AV.agg [AV.w64 (at' l p).1, AV.w64 (at' l p).2, AV.w64 (at' l p).3, AV.w64 (at' l p).4, AV.int IntKind.i64 (at' l p).5, AV.int IntKind.i64 (at' l p).6]] ∧ List.length (gp16R k j l p) ≤ List.length (List.map enE (ptI k j (List.take p l)))) ∧ List.take (List.length (gp16R k j l p)) (List.map enE (ptI k j (List.take p l))) ++ [AV.agg [AV.w64 (at' l p).1, AV.w64 (at' l p).2, AV.w64 (at' l p).3, AV.w64 (at' l p).4, AV.int IntKind.i64 (at' l p).5, AV.int IntKind.i64 (at' l p).6]] = gp16R k j l (p + (1 : Nat)) ∧ inRange IntKind.i64 ((↑p : Int) + (1 : Int)) ∧ ∃ (p' : Nat), St.mk [AV.any, AV.any, AV.any, AV.any, AV.any, AV.any, AV.any, AV.vsl ((0 : Nat) + (1 : Nat) + (1 : Nat)) (0 : Nat) (List.length (gp16R k j l p) + (1 : Nat)), AV.ptr ((0 : Nat) + (1 : Nat)) (0 : Nat) (0 : Nat) true, AV.any, AV.any, AV.any, AV.any, AV.any, AV.any, AV.any, AV.any, AV.any, AV.any, AV.any, AV.any, AV.any, AV.vsl (0 : Nat) (0 : Nat) (List.length (List.map enE l)), AV.int IntKind.i64 (↑(List.length (List.map enE l)) : Int), AV.int IntKind.i64 ((↑p : Int) + (1 : Int)), AV.any, AV.any, AV.any, AV.any, AV.any, AV.any, AV.any, AV.any, AV.any, AV.any, AV.any, AV.any, AV.any] [some (Blk.mk false (48 : TypeId) (6 : Nat) true (List.map enE l)), some (Blk.mk true (26 : TypeId) (4 : Nat) true [AV.agg [AV.w64 (whV k j), AV.w64 (whW k), AV.w64 (mkW k), AV.w64 (mkW (k - (64 : Int)))]]), some (Blk.mk true (48 : Nat) (6 : Nat) true (gp16R k j l (p + (1 : Nat))))] = gp16St k j l p' ∧ Nat.le p' (List.length l) ∧ List.length l + (1 : Nat) - p' < List.length l + (1 : Nat) - p) ∧ (wtB (at' l p).1 (at' l p).2 (at' l p).3 (at' l p).4 (whV k j) (whW k) (mkW k) (mkW (k - (64 : Int))) = false → inRange IntKind.i64 ((↑p : Int) + (1 : Int)) ∧ ∃ (p' : Nat), St.mk [AV.any, AV.any, AV.any, AV.any, AV.any, AV.any, AV.any, AV.vsl ((0 : Nat) + (1 : Nat) + (1 : Nat)) (0 : Nat) (List.length (gp16R k j l p)), AV.ptr ((0 : Nat) + (1 : Nat)) (0 : Nat) (0 : Nat) true, AV.any, AV.any, AV.any, AV.any, AV.any, AV.any, AV.any, AV.any, AV.any, AV.any, AV.any, AV.any, AV.any, AV.vsl (0 : Nat) (0 : Nat) (List.length (List.map enE l)), AV.int IntKind.i64 (↑(List.length (List.map enE l)) : Int), AV.int IntKind.i64 ((↑p : Int) + (1 : Int)), AV.any, AV.any, AV.any, AV.any, AV.any, AV.any, AV.any, AV.any, AV.any, AV.any, AV.any, AV.any, AV.any] [some (Blk.mk false (48 : TypeId) (6 : Nat) true (List.map enE l)), some (Blk.mk true (26 : TypeId) (4 : Nat) true [AV.agg [AV.w64 (whV k j), AV.w64 (whW k), AV.w64 (mkW k), AV.w64 (mkW (k - (64 : Int)))]]), some (Blk.mk true (48 : TypeId) (6 : Nat) true (gp16R k j l p))] = gp16St k j l p' ∧ Nat.le p' (List.length l) ∧ List.length l + (1 : Nat) - p' < List.length l + (1 : Nat) - p)) ∧ (Decidable.decide ((↑p : Int) < (↑(List.length (List.map enE l)) : Int)) = false → List.length (gp16R k j l p) = List.length (List.map enE (ptI k j l)) ∧ some (Blk.mk true (48 : TypeId) (6 : Nat) true (gp16R k j l p)) = some (Blk.mk true (48 : TypeId) (6 : Nat) true (List.map enE (ptI k j l))))))) := by kernel_rfl

theorem gpart16Cs_ok : ∀ e ∈ gpart16Cs, SpecOK Try.prog e.1 e.2 := by
  intro e he
  simp only [gpart16Cs, List.mem_cons, List.not_mem_nil, or_false] at he
  rcases he with rfl | rfl | rfl
  · exact gmany16_ok
  · exact gwhole16_ok
  · exact wmeet_ok

theorem gpart16_ok : SpecOK Try.prog 18 (genSpec [none, none, pEn] gpart16F) := by
  refine genSpec_ok (run_ok (l := gpart16Cs) gpart16Cs_ok mixed noNG) fun l R hF => ?_
  unfold gpart16F at hF
  split at hF
  · rename_i k j r_l
    obtain ⟨hr_l, hl, hF⟩ := hF
    generalize deE r_l = l at hr_l hl hF
    subst hr_l
    refine ⟨_, hF, trivial, (gp16H k j l), ?_⟩
    show run gpart16Cs Try.prog _ [.int .i64 k, .int .i64 j, .vsl 0 0 (l.map enE).length] [some ⟨false, (pEn.getD (0, 0)).1, (pEn.getD (0, 0)).2, true, (l.map enE)⟩] _ _
    rw [gpart16_run]
    have hml : (l.map enE).length = l.length := List.length_map _
    refine ⟨fun h => ?_, fun h => ⟨fun h1 => ?_, fun h1 => ?_⟩⟩
    · have h := of_decide_eq_true h
      rw [pt_none (fun hh => absurd hh.1 (by omega))]
      rfl
    · have h1 := of_decide_eq_true h1
      rw [pt_none (fun hh => absurd hh.2 (by omega))]
      rfl
    have h := of_decide_eq_false h
    have h1 := of_decide_eq_false h1
    obtain ⟨t, rfl⟩ := Int.eq_ofNat_of_zero_le (show 0 ≤ j by omega)
    have hr := mn_rt (Int.natCast_nonneg t) (show (t : Int) < mnI k by omega)
    have hmn := mnI_nat hr
    refine ⟨hr, Int.natCast_nonneg t, ⟨rfl, Nat.zero_le _⟩, ?_⟩
    intro i (hi : i ≤ _)
    have hlen : (gp16R k t l i).length ≤ i := by
      unfold gp16R
      rw [List.length_map]
      have h2 := ptI_length k t (l.take i)
      have h3 : (l.take i).length ≤ i := by rw [List.length_take]; omega
      omega
    refine ⟨fun hlt => ?_, fun hge => ?_⟩
    · have hlt := of_decide_eq_true hlt
      have hil : i < l.length := by omega
      have B : 0 ≤ (i : Int) ∧ (i : Int) < ((l.map enE).length : Int) := by omega
      have hs := ptI_succ (k := k) (j := (t : Int)) hil
      rw [pt_one hr (by omega)] at hs
      rw [wh_ok hr]
      refine ⟨B, read_rows B.1 B.2 (en_whole _), fun ho => ?_, fun ho => ?_⟩
      · have hb : gp16R k t l (i + 1) = gp16R k t l i ++ [enE (at' l i)] := by
          unfold gp16R
          rw [hs, if_pos ho, List.map_append]
          rfl
        refine ⟨⟨by omega, by omega, Nat.le_refl _, Nat.le_refl _⟩, ?_, inR (by omega) (by omega), i + 1, ?_, hil, by omega⟩
        · rw [hb]
          exact congrArg (· ++ [enE (at' l i)]) (List.take_length)
        · unfold gp16St
          rw [hb, List.length_append]
          rfl
      · have hb : gp16R k t l (i + 1) = gp16R k t l i := by
          unfold gp16R
          rw [hs, if_neg (by rw [ho]; exact Bool.false_ne_true), List.append_nil]
        refine ⟨inR (by omega) (by omega), i + 1, ?_, hil, by omega⟩
        unfold gp16St
        rw [hb]
        rfl
    · have hge := of_decide_eq_false hge
      have e : i = l.length := by omega
      have hb : gp16R k t l i = List.map enE (ptI k t l) := by
        unfold gp16R
        rw [e, List.take_length]
      rw [hb]
      exact ⟨rfl, rfl⟩
  · exact hF.elim


noncomputable def gcopies16Cs : List (FuncId × Sx.Spec) := [(13, genSpec [none] gright16F),
  (9, genSpec [none, none] gbanks16F)]

theorem gcopies16_run (k : Int) (l : List En) (r : AV) : run gcopies16Cs Try.prog 21 [.int .i64 k, .vsl 0 0 (l.map enE).length] [some ⟨false, (pEn.getD (0, 0)).1, (pEn.getD (0, 0)).2, true, (l.map enE)⟩] (gc16H k l) (yields (.v r)) =
    (((!rtI k) = true → AV.int IntKind.i64 (0 : Int) = r) ∧ ((!rtI k) = false → (St.mk [AV.int IntKind.i64 k, AV.any, AV.any, AV.any, AV.any, AV.int IntKind.i64 (0 : Int), AV.any, AV.any, AV.any, AV.any, AV.any, AV.vsl (0 : Nat) (0 : Nat) (List.length (List.map enE l)), AV.int IntKind.i64 (↑(List.length (List.map enE l)) : Int), AV.int IntKind.i64 (0 : Int), AV.any, AV.any, AV.any, AV.any, AV.any, AV.any, AV.any, AV.any, AV.any, AV.any, AV.any, AV.any, AV.any] [some (Blk.mk false (48 : TypeId) (6 : Nat) true (List.map enE l))] = gc16St k l (0 : Nat) ∧ Nat.le (0 : Nat) (List.length l)) ∧ ∀ (p : Nat), Nat.le p (List.length l) → (Decidable.decide ((↑p : Int) < (↑(List.length (List.map enE l)) : Int)) = true → ((0 : Int) ≤ (↑p : Int) ∧ (↑p : Int) < (↑(List.length (List.map enE l)) : Int)) ∧ Blk.read Proofs.Try.prog (Blk.mk false (48 : TypeId) (6 : Nat) true (List.map enE l)) (48 : Nat) ((0 : Nat) + Int.toNat (↑p : Int)) (0 : Nat) = some (AV.agg [AV.w64 (at' l p).1, AV.w64 (at' l p).2, AV.w64 (at' l p).3, AV.w64 (at' l p).4, AV.int IntKind.i64 (at' l p).5, AV.int IntKind.i64 (at' l p).6]) ∧ (List.map inA (bkI k (at' l p).1 (at' l p).3) = bq16R k (at' l p) ∧ List.length (List.map inA (bkI k (at' l p).1 (at' l p).3)) = List.length (bq16R k (at' l p))) ∧ inRange IntKind.i64 ((↑(List.length (bq16R k (at' l p))) : Int) - (1 : Int)) ∧ inRange IntKind.i64 (cpI k (List.take p l) + ((↑(List.length (bq16R k (at' l p))) : Int) - (1 : Int))) ∧ inRange IntKind.i64 ((↑p : Int) + (1 : Int)) ∧ ∃ (p' : Nat), St.mk [AV.int IntKind.i64 k, AV.any, AV.any, AV.any, AV.any, AV.int IntKind.i64 (cpI k (List.take p l) + ((↑(List.length (bq16R k (at' l p))) : Int) - (1 : Int))), AV.any, AV.any, AV.any, AV.any, AV.any, AV.vsl (0 : Nat) (0 : Nat) (List.length (List.map enE l)), AV.int IntKind.i64 (↑(List.length (List.map enE l)) : Int), AV.int IntKind.i64 ((↑p : Int) + (1 : Int)), AV.any, AV.any, AV.any, AV.any, AV.any, AV.any, AV.any, AV.any, AV.any, AV.any, AV.any, AV.any, AV.any] [some (Blk.mk false (48 : TypeId) (6 : Nat) true (List.map enE l))] = gc16St k l p' ∧ Nat.le p' (List.length l) ∧ List.length l + (1 : Nat) - p' < List.length l + (1 : Nat) - p) ∧ (Decidable.decide ((↑p : Int) < (↑(List.length (List.map enE l)) : Int)) = false → AV.int IntKind.i64 (cpI k (List.take p l)) = r))) := by kernel_rfl

theorem gcopies16Cs_ok : ∀ e ∈ gcopies16Cs, SpecOK Try.prog e.1 e.2 := by
  intro e he
  simp only [gcopies16Cs, List.mem_cons, List.not_mem_nil, or_false] at he
  rcases he with rfl | rfl
  · exact gright16_ok
  · exact gbanks16_ok

theorem gcopies16_ok : SpecOK Try.prog 21 (genSpec [none, pEn] gcopies16F) := by
  refine genSpec_ok (run_ok (l := gcopies16Cs) gcopies16Cs_ok mixed noNG) fun l R hF => ?_
  unfold gcopies16F at hF
  split at hF
  · rename_i k r_l
    obtain ⟨hr_l, hl, hF⟩ := hF
    generalize deE r_l = l at hr_l hl hF
    subst hr_l
    refine ⟨_, hF, rfl, (gc16H k l), ?_⟩
    show run gcopies16Cs Try.prog _ [.int .i64 k, .vsl 0 0 (l.map enE).length] [some ⟨false, (pEn.getD (0, 0)).1, (pEn.getD (0, 0)).2, true, (l.map enE)⟩] _ _
    rw [gcopies16_run]
    have hml : (l.map enE).length = l.length := List.length_map _
    refine ⟨fun h => ?_, fun h => ?_⟩
    · rw [cpI_none (notTT h)]
    have hr := notF h
    refine ⟨⟨rfl, Nat.zero_le _⟩, ?_⟩
    intro i (hi : i ≤ _)
    have hcb := cpI_bound k (l.take i)
    have htl : (l.take i).length ≤ 1000000 := by rw [List.length_take]; omega
    refine ⟨fun hlt => ?_, fun hge => ?_⟩
    · have hlt := of_decide_eq_true hlt
      have hil : i < l.length := by omega
      have B : 0 ≤ (i : Int) ∧ (i : Int) < ((l.map enE).length : Int) := by omega
      have h8 := bkI_length k (at' l i).v (at' l i).m
      have h1 := List.length_pos_of_mem (bkI_pos hr (at' l i).v (at' l i).m)
      have hq : (bq16R k (at' l i)).length = (bkI k (at' l i).v (at' l i).m).length := List.length_map _
      have hs := cpI_succ (k := k) hil
      refine ⟨B, read_rows B.1 B.2 (en_whole _), ⟨rfl, rfl⟩, inR (by omega) (by omega), inR (by omega) (by omega), inR (by omega) (by omega), i + 1, ?_, hil, by omega⟩
      unfold gc16St
      rw [hs]
      have e : max (((bkI k (at' l i).v (at' l i).m).length : Int) - 1) 0 = ((bq16R k (at' l i)).length : Int) - 1 := by
        rw [hq]
        omega
      rw [e]
      rfl
    · have hge := of_decide_eq_false hge
      have e : i = l.length := by omega
      rw [e, List.take_length]
  · exact hF.elim


end Go.Proofs.Ythfgocpejlhanaa.L1
end

section
/-
  Layer 16: the list's theorem.
-/
namespace Go.Proofs.Ythfgocpejlhanaa.L1
open Go.Sx Go.Sx.M

theorem g16Cs_ok : ∀ e ∈ g16Cs, SpecOK Try.prog e.1 e.2 := fun e he => by
  simp only [g16Cs, List.mem_cons, List.not_mem_nil, or_false] at he
  rcases he with rfl | rfl | rfl | rfl | rfl | rfl
  · exact gright16_ok
  · exact gmany16_ok
  · exact gof16_ok
  · exact gbanks16_ok
  · exact gpart16_ok
  · exact gcopies16_ok

theorem l16Cs_ok : ∀ e ∈ l16Cs, SpecOK Try.prog e.1 e.2 := l16Cs_of g16Cs_ok

end Go.Proofs.Ythfgocpejlhanaa.L1
end

