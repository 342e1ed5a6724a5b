/-
  Layer 16: the law SplitSome.
-/
import Derived.Test.YthfgocpejlhanaaL16E
namespace Go.Proofs.Ythfgocpejlhanaa.L1
open Go.Sx Go.Sx.M

def so16St (k x : Int) (v w m n : BitVec 64) (p : Nat) : St :=
  ⟨[.int .i64 k, .any, .int .i64 x, .any, .ptr 0 0 0 true, .any, .any, .any, .any, .any, .any, .any, .any, .any, .any, .vsl 1 0 (bk16 k v m).length, .int .i64 (bk16 k v m).length, .int .i64 p, .any, .any, .any, .any, .any, .any, .any, .any, .any, .any, .any, .any, .any, .any, .any, .any, .any, .any, .any, .any, .any, .any, .any, .any, .any, .any, .any, .any, .any, .any, .any, .any, .any, .any, .any, .any, .any, .any],
   [some ⟨true, 26, 4, true, [.agg [.w64 v, .w64 w, .w64 m, .w64 n]]⟩, some ⟨true, 3, 1, true, bk16 k v m⟩]⟩
def so16M0 : Modes := ⟨[1, 0, 1, 0, 1, 0, 0, 0, 0, 0, 0, 0, 0, 0, 0, 1, 1, 2, 0, 0, 0, 0, 0, 0, 0, 0, 0, 0, 0, 0, 0, 0, 0, 0, 0, 0, 0, 0, 0, 0, 0, 0, 0, 0, 0, 0, 0, 0, 0, 0, 0, 0, 0, 0, 0, 0], [], [], [], []⟩
def so16M : Modes := ⟨[1, 0, 1, 0, 1, 0, 0, 0, 0, 0, 0, 0, 0, 0, 0, 1, 1, 1, 0, 0, 0, 0, 0, 0, 0, 0, 0, 0, 0, 0, 0, 0, 0, 0, 0, 0, 0, 0, 0, 0, 0, 0, 0, 0, 0, 0, 0, 0, 0, 0, 0, 0, 0, 0, 0, 0], [], [], [], []⟩
def so16M' : Modes := ⟨[1, 0, 0, 0, 0, 0, 0, 0, 0, 0, 0, 0, 0, 0, 0, 0, 0, 0, 0, 0, 0, 0, 0, 0, 0, 0, 0, 0, 0, 0, 0, 0, 0, 0, 0, 0, 0, 0, 0, 0, 0, 0, 0, 0, 0, 0, 0, 0, 0, 0, 0, 0, 0, 0, 0, 0], [], [], [], []⟩
def so16H (k x : Int) (v w m n : BitVec 64) : List Hint := [.nm (bk16 k v m), .linv _ 0 (so16St k x v w m n) (fun p => p ≤ (bk16 k v m).length) (fun p => (bk16 k v m).length + 1 - p) so16M0 so16M so16M' (fun _ => []) fun p =>
  [.fork [.dy, .cell (inA ((bkI k v m).getD p 0)), .nw, .br false, .br false, .br false, .nw] []]]

theorem splitSome16_run (k : Int) (v w m n : BitVec 64) (x : Int) : run l16Cs Try.prog 6 [.int .i64 k, .agg [.w64 v, .w64 w, .w64 m, .w64 n], .int .i64 x] [] (so16H k x v w m n) isTrue =
    ((List.map inA (bkI k v m) = bk16 k v m ∧ List.length (List.map inA (bkI k v m)) = List.length (bk16 k v m)) ∧ (St.mk [AV.int IntKind.i64 k, AV.any, AV.int IntKind.i64 x, AV.any, AV.ptr (0 : Nat) (0 : Nat) (0 : Nat) true, AV.any, AV.any, AV.any, AV.any, AV.any, AV.any, AV.any, AV.any, AV.any, AV.any, AV.vsl ((0 : Nat) + (1 : Nat)) (0 : Nat) (List.length (bk16 k v m)), AV.int IntKind.i64 (↑(List.length (bk16 k v m)) : Int), AV.int IntKind.i64 (0 : Int), AV.any, AV.any, AV.any, AV.any, AV.any, AV.any, AV.any, AV.any, AV.any, AV.any, AV.any, AV.any, AV.any, AV.any, AV.any, AV.any, AV.any, AV.any, AV.any, AV.any, AV.any, AV.any, AV.any, AV.any, AV.any, AV.any, AV.any, AV.any, AV.any, AV.any, AV.any, AV.any, AV.any, AV.any, AV.any, AV.any, AV.any, AV.any] [some (Blk.mk true (26 : Nat) (4 : Nat) true [AV.agg [AV.w64 v, AV.w64 w, AV.w64 m, AV.w64 n]]), some (Blk.mk true (3 : TypeId) (1 : Nat) true (bk16 k v m))] = so16St k x v w m n (0 : Nat) ∧ Nat.le (0 : Nat) (List.length (bk16 k v m))) ∧ ∀ (p : Nat), Nat.le p (List.length (bk16 k v m)) → (Decidable.decide ((↑p : Int) < (↑(List.length (bk16 k v m)) : Int)) = true → ((0 : Int) ≤ (↑p : Int) ∧ (↑p : Int) < (↑(List.length (bk16 k v m)) : Int)) ∧ Blk.read Proofs.Try.prog (Blk.mk true (3 : TypeId) (1 : Nat) true (bk16 k v m)) (3 : Nat) ((0 : Nat) + Int.toNat (↑p : Int)) (0 : Nat) = some (AV.int IntKind.i64 (List.getD (bkI k v m) p (0 : Int))) ∧ inRange IntKind.i64 ((64 : Int) - if (3 : Int) < if (0 : Int) > k then (0 : Int) else k then (3 : Int) else if (0 : Int) > k then (0 : Int) else k) ∧ ((0 : Int) ≤ (64 : Int) - if (3 : Int) < if (0 : Int) > k then (0 : Int) else k then (3 : Int) else if (0 : Int) > k then (0 : Int) else k) ∧ (!wtB v w m n (BitVec.ofInt (64 : Nat) (List.getD (bkI k v m) p (0 : Int)) <<< Int.toNat ((64 : Int) - if (3 : Int) < if (0 : Int) > k then (0 : Int) else k then (3 : Int) else if (0 : Int) > k then (0 : Int) else k) &&& mkW k &&& mkW (clamp k)) (BitVec.ofInt (64 : Nat) (0 : Int) &&& mkW (k - (64 : Int)) &&& mkW (clamp k - (64 : Int))) (mkW (clamp k)) (mkW (clamp k - (64 : Int)))) = false ∧ (ofI k (smW (selW (wtB v w m n (BitVec.ofInt (64 : Nat) (List.getD (bkI k v m) p (0 : Int)) <<< Int.toNat ((64 : Int) - if (3 : Int) < if (0 : Int) > k then (0 : Int) else k then (3 : Int) else if (0 : Int) > k then (0 : Int) else k) &&& mkW k &&& mkW (clamp k)) (BitVec.ofInt (64 : Nat) (0 : Int) &&& mkW (k - (64 : Int)) &&& mkW (clamp k - (64 : Int))) (mkW (clamp k)) (mkW (clamp k - (64 : Int)))) (v &&& m ||| BitVec.ofInt (64 : Nat) (List.getD (bkI k v m) p (0 : Int)) <<< Int.toNat ((64 : Int) - if (3 : Int) < if (0 : Int) > k then (0 : Int) else k then (3 : Int) else if (0 : Int) > k then (0 : Int) else k) &&& mkW k &&& mkW (clamp k) &&& mkW (clamp k))) (selW (wtB v w m n (BitVec.ofInt (64 : Nat) (List.getD (bkI k v m) p (0 : Int)) <<< Int.toNat ((64 : Int) - if (3 : Int) < if (0 : Int) > k then (0 : Int) else k then (3 : Int) else if (0 : Int) > k then (0 : Int) else k) &&& mkW k &&& mkW (clamp k)) (BitVec.ofInt (64 : Nat) (0 : Int) &&& mkW (k - (64 : Int)) &&& mkW (clamp k - (64 : Int))) (mkW (clamp k)) (mkW (clamp k - (64 : Int)))) (w &&& n ||| BitVec.ofInt (64 : Nat) (0 : Int) &&& mkW (k - (64 : Int)) &&& mkW (clamp k - (64 : Int)) &&& mkW (clamp k - (64 : Int)))) (selW (wtB v w m n (BitVec.ofInt (64 : Nat) (List.getD (bkI k v m) p (0 : Int)) <<< Int.toNat ((64 : Int) - if (3 : Int) < if (0 : Int) > k then (0 : Int) else k then (3 : Int) else if (0 : Int) > k then (0 : Int) else k) &&& mkW k &&& mkW (clamp k)) (BitVec.ofInt (64 : Nat) (0 : Int) &&& mkW (k - (64 : Int)) &&& mkW (clamp k - (64 : Int))) (mkW (clamp k)) (mkW (clamp k - (64 : Int)))) (m ||| mkW (clamp k))) (selW (wtB v w m n (BitVec.ofInt (64 : Nat) (List.getD (bkI k v m) p (0 : Int)) <<< Int.toNat ((64 : Int) - if (3 : Int) < if (0 : Int) > k then (0 : Int) else k then (3 : Int) else if (0 : Int) > k then (0 : Int) else k) &&& mkW k &&& mkW (clamp k)) (BitVec.ofInt (64 : Nat) (0 : Int) &&& mkW (k - (64 : Int)) &&& mkW (clamp k - (64 : Int))) (mkW (clamp k)) (mkW (clamp k - (64 : Int)))) (n ||| mkW (clamp k - (64 : Int)))) (BitVec.ofInt (64 : Nat) x) (0 : Nat)) != List.getD (bkI k v m) p (0 : Int)) = false ∧ (!wmB v w m n (smW (selW (wtB v w m n (BitVec.ofInt (64 : Nat) (List.getD (bkI k v m) p (0 : Int)) <<< Int.toNat ((64 : Int) - if (3 : Int) < if (0 : Int) > k then (0 : Int) else k then (3 : Int) else if (0 : Int) > k then (0 : Int) else k) &&& mkW k &&& mkW (clamp k)) (BitVec.ofInt (64 : Nat) (0 : Int) &&& mkW (k - (64 : Int)) &&& mkW (clamp k - (64 : Int))) (mkW (clamp k)) (mkW (clamp k - (64 : Int)))) (v &&& m ||| BitVec.ofInt (64 : Nat) (List.getD (bkI k v m) p (0 : Int)) <<< Int.toNat ((64 : Int) - if (3 : Int) < if (0 : Int) > k then (0 : Int) else k then (3 : Int) else if (0 : Int) > k then (0 : Int) else k) &&& mkW k &&& mkW (clamp k) &&& mkW (clamp k))) (selW (wtB v w m n (BitVec.ofInt (64 : Nat) (List.getD (bkI k v m) p (0 : Int)) <<< Int.toNat ((64 : Int) - if (3 : Int) < if (0 : Int) > k then (0 : Int) else k then (3 : Int) else if (0 : Int) > k then (0 : Int) else k) &&& mkW k &&& mkW (clamp k)) (BitVec.ofInt (64 : Nat) (0 : Int) &&& mkW (k - (64 : Int)) &&& mkW (clamp k - (64 : Int))) (mkW (clamp k)) (mkW (clamp k - (64 : Int)))) (w &&& n ||| BitVec.ofInt (64 : Nat) (0 : Int) &&& mkW (k - (64 : Int)) &&& mkW (clamp k - (64 : Int)) &&& mkW (clamp k - (64 : Int)))) (selW (wtB v w m n (BitVec.ofInt (64 : Nat) (List.getD (bkI k v m) p (0 : Int)) <<< Int.toNat ((64 : Int) - if (3 : Int) < if (0 : Int) > k then (0 : Int) else k then (3 : Int) else if (0 : Int) > k then (0 : Int) else k) &&& mkW k &&& mkW (clamp k)) (BitVec.ofInt (64 : Nat) (0 : Int) &&& mkW (k - (64 : Int)) &&& mkW (clamp k - (64 : Int))) (mkW (clamp k)) (mkW (clamp k - (64 : Int)))) (m ||| mkW (clamp k))) (selW (wtB v w m n (BitVec.ofInt (64 : Nat) (List.getD (bkI k v m) p (0 : Int)) <<< Int.toNat ((64 : Int) - if (3 : Int) < if (0 : Int) > k then (0 : Int) else k then (3 : Int) else if (0 : Int) > k then (0 : Int) else k) &&& mkW k &&& mkW (clamp k)) (BitVec.ofInt (64 : Nat) (0 : Int) &&& mkW (k - (64 : Int)) &&& mkW (clamp k - (64 : Int))) (mkW (clamp k)) (mkW (clamp k - (64 : Int)))) (n ||| mkW (clamp k - (64 : Int)))) (BitVec.ofInt (64 : Nat) x) (0 : Nat)) (smW (selW (wtB v w m n (BitVec.ofInt (64 : Nat) (List.getD (bkI k v m) p (0 : Int)) <<< Int.toNat ((64 : Int) - if (3 : Int) < if (0 : Int) > k then (0 : Int) else k then (3 : Int) else if (0 : Int) > k then (0 : Int) else k) &&& mkW k &&& mkW (clamp k)) (BitVec.ofInt (64 : Nat) (0 : Int) &&& mkW (k - (64 : Int)) &&& mkW (clamp k - (64 : Int))) (mkW (clamp k)) (mkW (clamp k - (64 : Int)))) (v &&& m ||| BitVec.ofInt (64 : Nat) (List.getD (bkI k v m) p (0 : Int)) <<< Int.toNat ((64 : Int) - if (3 : Int) < if (0 : Int) > k then (0 : Int) else k then (3 : Int) else if (0 : Int) > k then (0 : Int) else k) &&& mkW k &&& mkW (clamp k) &&& mkW (clamp k))) (selW (wtB v w m n (BitVec.ofInt (64 : Nat) (List.getD (bkI k v m) p (0 : Int)) <<< Int.toNat ((64 : Int) - if (3 : Int) < if (0 : Int) > k then (0 : Int) else k then (3 : Int) else if (0 : Int) > k then (0 : Int) else k) &&& mkW k &&& mkW (clamp k)) (BitVec.ofInt (64 : Nat) (0 : Int) &&& mkW (k - (64 : Int)) &&& mkW (clamp k - (64 : Int))) (mkW (clamp k)) (mkW (clamp k - (64 : Int)))) (w &&& n ||| BitVec.ofInt (64 : Nat) (0 : Int) &&& mkW (k - (64 : Int)) &&& mkW (clamp k - (64 : Int)) &&& mkW (clamp k - (64 : Int)))) (selW (wtB v w m n (BitVec.ofInt (64 : Nat) (List.getD (bkI k v m) p (0 : Int)) <<< Int.toNat ((64 : Int) - if (3 : Int) < if (0 : Int) > k then (0 : Int) else k then (3 : Int) else if (0 : Int) > k then (0 : Int) else k) &&& mkW k &&& mkW (clamp k)) (BitVec.ofInt (64 : Nat) (0 : Int) &&& mkW (k - (64 : Int)) &&& mkW (clamp k - (64 : Int))) (mkW (clamp k)) (mkW (clamp k - (64 : Int)))) (m ||| mkW (clamp k))) (selW (wtB v w m n (BitVec.ofInt (64 : Nat) (List.getD (bkI k v m) p (0 : Int)) <<< Int.toNat ((64 : Int) - if (3 : Int) < if (0 : Int) > k then (0 : Int) else k then (3 : Int) else if (0 : Int) > k then (0 : Int) else k) &&& mkW k &&& mkW (clamp k)) (BitVec.ofInt (64 : Nat) (0 : Int) &&& mkW (k - (64 : Int)) &&& mkW (clamp k - (64 : Int))) (mkW (clamp k)) (mkW (clamp k - (64 : Int)))) (n ||| mkW (clamp k - (64 : Int)))) (BitVec.ofInt (64 : Nat) x) (64 : Nat))) = false ∧ inRange IntKind.i64 ((↑p : Int) + (1 : Int)) ∧ ∃ (p' : Nat), St.mk [AV.int IntKind.i64 k, AV.any, AV.int IntKind.i64 x, AV.any, AV.ptr (0 : Nat) (0 : Nat) (0 : Nat) true, AV.any, AV.any, AV.any, AV.any, AV.any, AV.any, AV.any, AV.any, AV.any, AV.any, AV.vsl ((0 : Nat) + (1 : Nat)) (0 : Nat) (List.length (bk16 k v m)), AV.int IntKind.i64 (↑(List.length (bk16 k v m)) : Int), AV.int IntKind.i64 ((↑p : Int) + (1 : Int)), AV.any, AV.any, AV.any, AV.any, AV.any, AV.any, AV.any, AV.any, AV.any, AV.any, AV.any, AV.any, AV.any, AV.any, AV.any, AV.any, AV.any, AV.any, AV.any, AV.any, AV.any, AV.any, AV.any, AV.any, AV.any, AV.any, AV.any, AV.any, AV.any, AV.any, AV.any, AV.any, AV.any, AV.any, AV.any, AV.any, AV.any, AV.any] [some (Blk.mk true (26 : TypeId) (4 : Nat) true [AV.agg [AV.w64 v, AV.w64 w, AV.w64 m, AV.w64 n]]), some (Blk.mk true (3 : TypeId) (1 : Nat) true (bk16 k v m))] = so16St k x v w m n p' ∧ Nat.le p' (List.length (bk16 k v m)) ∧ List.length (bk16 k v m) + (1 : Nat) - p' < List.length (bk16 k v m) + (1 : Nat) - p) ∧ (Decidable.decide ((↑p : Int) < (↑(List.length (bk16 k v m)) : Int)) = false → True ∧ true = true)) := by kernel_rfl

theorem bank_fix {k j : Nat} (hk : k ≤ 3) : FixW (BitVec.ofInt 64 (j : Int) <<< Int.toNat (64 - (k : Int)) &&& mkW k &&& mkW k) (BitVec.ofInt 64 0 &&& mkW ((k : Int) - 64) &&& mkW ((k : Int) - 64)) (mkW k) (mkW ((k : Int) - 64)) k j := fun i hi => by
  rw [bitAt_mk _ hi, bitAt_cut _ _ _ hi, bitAt_cut _ _ _ hi, decide_eq_true_eq]
  refine ⟨by omega, fun hik => ?_⟩
  have e : (64 - (k : Int)).toNat = 64 - k := by omega
  rw [decide_eq_true (by omega), Bool.and_true, Bool.and_true, bitAt_first (by omega), BitVec.ofInt_natCast, e, up_bit hk hik, decide_eq_true (by omega), Bool.true_and]

theorem splitSome16_law (k : Int) (v w m n : BitVec 64) (x : Int) : ∃ hs, run l16Cs Try.prog 6 [.int .i64 k, .agg [.w64 v, .w64 w, .w64 m, .w64 n], .int .i64 x] [] hs isTrue := by
  refine ⟨(so16H k x v w m n), ?_⟩
  rw [splitSome16_run]
  have hb : (bk16 k v m).length = (bkI k v m).length := by
    unfold bk16
    rw [List.length_map]
  have h8 := bkI_length k v m
  refine ⟨⟨rfl, rfl⟩, ⟨rfl, Nat.zero_le _⟩, ?_⟩
  intro p (hp : p ≤ _)
  refine ⟨fun hlt => ?_, fun _ => ⟨trivial, rfl⟩⟩
  have hlt := of_decide_eq_true hlt
  have hpl : p < (bkI k v m).length := by omega
  have B : 0 ≤ (p : Int) ∧ (p : Int) < (((bkI k v m).map inA).length : Int) := ⟨by omega, hlt⟩
  have R := read_rows (b := true) (ty := 3) (esz := 1) (de := inA) (l := bkI k v m) B.1 B.2 (int_whole _)
  refine ⟨B, R, ?_⟩
  have hmem : (bkI k v m).getD p 0 ∈ bkI k v m := by
    rw [List.getD_eq_getElem?_getD, List.getElem?_eq_getElem hpl]
    exact List.getElem_mem hpl
  have hr : rtI k = true := by
    cases h : rtI k with
    | true => rfl
    | false =>
      unfold bkI at hpl
      rw [h] at hpl
      exact absurd hpl (Nat.not_lt_zero _)
  obtain ⟨j, hj, hj2, hjo⟩ := (mem_bkI hr).1 hmem
  have hk := rtI_iff.1 hr
  rw [hj]
  obtain ⟨kk, rfl⟩ := Int.eq_ofNat_of_zero_le hk.1
  rw [Int.toNat_natCast] at hj2 hjo
  have hk3 : kk ≤ 3 := by omega
  have ec : (if (3 : Int) < if (0 : Int) > (kk : Int) then 0 else (kk : Int) then 3 else if (0 : Int) > (kk : Int) then 0 else (kk : Int)) = (kk : Int) := by
    rw [if_neg (show ¬ (0 : Int) > (kk : Int) by omega), if_neg (by omega)]
  have ek : clamp (kk : Int) = kk := by
    unfold clamp
    omega
  have hB := bank_fix (j := j) hk3
  simp only [ec, ek]
  change _ ∧ _
  rw [show Int.ofNat j = (j : Int) from rfl]
  generalize BitVec.ofInt 64 (j : Int) <<< Int.toNat (64 - (kk : Int)) &&& mkW kk &&& mkW kk = c at hB ⊢
  generalize BitVec.ofInt 64 0 &&& mkW ((kk : Int) - 64) &&& mkW ((kk : Int) - 64) = d at hB ⊢
  generalize mkW (kk : Int) = P at hB ⊢
  generalize mkW ((kk : Int) - 64) = Q at hB ⊢
  rw [fix_meet hk3 hB hjo]
  have hs := fix_some hk3 hj2 hB (w := w) (n := n) hjo (BitVec.ofInt 64 x)
  refine ⟨inR (by omega) (by omega), by omega, rfl, ?_, ?_, inR (by omega) (by omega), p + 1, rfl, by show p + 1 ≤ _; omega, by omega⟩
  · show (ofI (kk : Int) (smW (v &&& m ||| c &&& P) (w &&& n ||| d &&& Q) (m ||| P) (n ||| Q) (BitVec.ofInt 64 x) 0) != (j : Int)) = false
    unfold ofI
    rw [if_pos hr, Int.toNat_natCast, hs.2]
    simp
  · show (!wmB v w m n (smW (v &&& m ||| c &&& P) (w &&& n ||| d &&& Q) (m ||| P) (n ||| Q) (BitVec.ofInt 64 x) 0) (smW (v &&& m ||| c &&& P) (w &&& n ||| d &&& Q) (m ||| P) (n ||| Q) (BitVec.ofInt 64 x) 64)) = false
    rw [hs.1]
    rfl

end Go.Proofs.Ythfgocpejlhanaa.L1
