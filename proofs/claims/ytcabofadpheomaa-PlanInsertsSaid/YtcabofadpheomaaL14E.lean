/-
  Layer 14: the laws PlanOne, PlanAll, PlanInserts: their conditions, their proofs.
-/
import Derived.Test.YtcabofadpheomaaL14a
namespace Go.Proofs.Ytcabofadpheomaa.L1
open Go.Sx Go.Sx.M

theorem planOne14_run (o : Int) (l : List Sl) (i : Int) (v w m n : BitVec 64) (k j : Int) : run l14Cs Try.prog 3 [.int .i64 o, .vsl 0 0 (l.map slE).length, .agg [.int .i64 i, .w64 v, .w64 w, .w64 m, .w64 n, .int .i64 k, .int .i64 j]] [some ⟨false, 66, 7, true, l.map slE⟩] [.fork [] [.nm (l.map slE), .nm [spE ⟨i, v, w, m, n, k, j⟩], .cell (spE ⟨i, v, w, m, n, k, j⟩), .br true, .br true, .br true, .br true, .fork [.br true] [.br true]]] isTrue =
    (let A := List.map slE; let z := AV.int IntKind.i64; let y := (0 : Int); let u := (1000000 : Nat); let r := (0 : Nat); let q := Sp.mk i (En.mk v w m n k j); let d := List.length (A l); let t := Decidable.decide ((↑(d) : Int) > (20 : Int)); let h := r + d ≤ d; let c := AV.agg [z i, AV.w64 v, AV.w64 w, AV.w64 m, AV.w64 n, z k, z j]; let B := List.length [c]; let a := List.take (d) (List.drop r (A l)); let p := deS (a); let x := List.length p ≤ (9223372036854775807 : Nat); let g := List.length p ≤ u; let f := A p; let e := List.map wrE (oneW o p q); let s := List.length e; let b := List.take (s) (List.drop r e); let C := deW (b);((t = true → True ∧ true = true) ∧ (t = false → h ∧ a = f ∧ g ∧ (f = A l ∧ List.length (f) = d) ∧ h ∧ a = f ∧ g ∧ [c] = [c] ∧ List.length (deSp [c]) ≤ u ∧ ([c] = [c] ∧ B = B) ∧ (y ≤ y ∧ y < (↑(B) : Int)) ∧ Blk.read Proofs.Try.prog (Blk.mk true (47 : TypeId) (7 : Nat) true [c]) (47 : Nat) (r + Int.toNat y) r = some (c) ∧ h ∧ a = f ∧ g ∧ r + s ≤ s ∧ r + s ≤ s ∧ b = List.map wrE (C) ∧ List.length (C) ≤ u ∧ b = List.map wrE (C) ∧ List.length (C) ≤ u ∧ Decidable.decide (C = C) = true ∧ (oneE o p q == oneE o p q) = true ∧ h ∧ h ∧ a = f ∧ x ∧ a = f ∧ x ∧ Decidable.decide (deS (a) = deS (a)) = true ∧ h ∧ a = f ∧ g ∧ h ∧ a = f ∧ g ∧ (kpO o p == kpO o p) = true ∧ ((o == y) = true → (isO o == true) = true ∧ True ∧ true = true) ∧ ((o == y) = false → (isO o == (o == (1 : Int))) = true ∧ True ∧ true = true)))) := by kernel_rfl

theorem planAll14_run (o : Int) (l : List Sl) (s : List Sp) : run l14Cs Try.prog 4 [.int .i64 o, .vsl 0 0 (l.map slE).length, .vsl 1 0 (s.map spE).length] [some ⟨false, 66, 7, true, l.map slE⟩, some ⟨false, 31, 7, true, s.map spE⟩] [.fork [] [.fork [] [.br true, .br true]]] isTrue =
    (let y := List.map wrE; let w := (1000 : Nat); let u := (1000000 : Nat); let m := List.map slE; let k := List.map spE; let i := (0 : Nat); let h := List.length (k s); let t := Decidable.decide ((↑(h) : Int) > (10 : Int)); let q := List.take (h) (List.drop i (k s)); let g := List.length (m l); let r := Decidable.decide ((↑(g) : Int) > (20 : Int)); let p := List.take (g) (List.drop i (m l)); let c := deS (p); let x := List.length (m c); let e := List.take (x) (List.drop i (m c)); let A := deS (e); let b := deSp (q); let z := List.length (k b); let n := y (allW o b c); let B := List.length n; let f := List.take (B) (List.drop i n); let d := List.take (z) (List.drop i (k b)); let v := deSp (d); let a := y (allW o v A); let C := List.length a; let j := List.take (C) (List.drop i a);((r = true → True ∧ true = true) ∧ (r = false → (t = true → True ∧ true = true) ∧ (t = false → i + g ≤ g ∧ i + h ≤ h ∧ p = m c ∧ List.length c ≤ w ∧ q = k b ∧ List.length b ≤ w ∧ i + g ≤ g ∧ p = m c ∧ List.length c ≤ u ∧ i + h ≤ h ∧ q = k b ∧ List.length b ≤ u ∧ i + x ≤ x ∧ i + z ≤ z ∧ e = m A ∧ List.length A ≤ w ∧ d = k v ∧ (List.length v < (1001 : Nat) ∧ List.length v ≤ w) ∧ i + B ≤ B ∧ i + C ≤ C ∧ f = y (deW (f)) ∧ List.length (deW (f)) ≤ u ∧ j = y (deW (j)) ∧ List.length (deW (j)) ≤ u ∧ Decidable.decide (deW (f) = deW (j)) = true ∧ (allE o b c == allE o v A) = true ∧ True ∧ true = true)))) := by kernel_rfl

theorem planInserts14_run (o : Int) (l : List Sl) (v w m n : BitVec 64) (k j : Int) : run l14Cs Try.prog 5 [.int .i64 o, .vsl 0 0 (l.map slE).length, .agg [.w64 v, .w64 w, .w64 m, .w64 n, .int .i64 k, .int .i64 j]] [some ⟨false, 66, 7, true, l.map slE⟩] [.fork [] [.br true, .br true]] isTrue =
    (let t := List.map wrE; let r := En.mk v w m n k j; let q := (1000000 : Nat); let p := (0 : Nat); let h := List.map slE; let e := List.length (h l); let s := Decidable.decide ((↑(e) : Int) > (20 : Int)); let i := List.take (e) (List.drop p (h l)); let a := deS (i); let u := List.length (h a); let g := t (wO o a r); let y := List.length g; let d := List.take (u) (List.drop p (h a)); let x := deS (d); let c := List.take (y) (List.drop p g); let b := t (oneW o x (Sp.mk (0 : Int) r)); let z := List.length b; let f := List.take (z) (List.drop p b);((s = true → True ∧ true = true) ∧ (s = false → p + e ≤ e ∧ i = h a ∧ List.length a ≤ q ∧ p + e ≤ e ∧ i = h a ∧ List.length a ≤ q ∧ p + u ≤ u ∧ d = h x ∧ List.length x ≤ q ∧ p + y ≤ y ∧ p + z ≤ z ∧ c = t (deW (c)) ∧ List.length (deW (c)) ≤ q ∧ f = t (deW (f)) ∧ List.length (deW (f)) ≤ q ∧ Decidable.decide (deW (c) = deW (f)) = true ∧ (eO o a r == oneE o x (Sp.mk (0 : Int) r)) = true ∧ True ∧ true = true))) := by kernel_rfl

theorem planOne14_law (o : Int) (l : List Sl) (i : Int) (v w m n : BitVec 64) (k j : Int) : ∃ hs, run l14Cs Try.prog 3 [.int .i64 o, .vsl 0 0 (l.map slE).length, .agg [.int .i64 i, .w64 v, .w64 w, .w64 m, .w64 n, .int .i64 k, .int .i64 j]] [some ⟨false, 66, 7, true, l.map slE⟩] hs isTrue := by
  refine ⟨[.fork [] [.nm (l.map slE), .nm [spE ⟨i, v, w, m, n, k, j⟩], .cell (spE ⟨i, v, w, m, n, k, j⟩), .br true, .br true, .br true, .br true, .fork [.br true] [.br true]]], ?_⟩
  rw [planOne14_run]; (conv => zeta)
  refine ⟨fun _ => ⟨trivial, rfl⟩, fun hl => ?_⟩
  have hl : l.length ≤ 20 := by have := of_decide_eq_false hl; rw [List.length_map] at this; omega
  have hw := oneW_few o l ⟨i, v, w, m, n, k, j⟩
  simp only [whole_row, deS_map, deW_map, zLe, true_and, and_true, eq_self, beq_self_eq_true, eq_true (show l.length ≤ 1000000 by omega), eq_true (show (oneW o l ⟨i, v, w, m, n, k, j⟩).length ≤ 1000000 by omega)]
  refine ⟨Nat.le_of_ble_eq_true rfl, ⟨Int.le_refl _, by show (0 : Int) < 1; decide⟩, by kernel_rfl, rfl, by omega, by omega, rfl, fun h => ?_, fun h => ?_⟩
  · have h : o = 0 := by simpa using h
    subst h; rfl
  · have h : o ≠ 0 := by simpa using h
    unfold isO
    rw [decide_eq_false h, Bool.false_or]
    simp
    rfl

theorem planAll14_law (o : Int) (l : List Sl) (s : List Sp) : ∃ hs, run l14Cs Try.prog 4 [.int .i64 o, .vsl 0 0 (l.map slE).length, .vsl 1 0 (s.map spE).length] [some ⟨false, 66, 7, true, l.map slE⟩, some ⟨false, 31, 7, true, s.map spE⟩] hs isTrue := by
  refine ⟨[.fork [] [.fork [] [.br true, .br true]]], ?_⟩
  rw [planAll14_run]; (conv => zeta)
  refine ⟨fun _ => ⟨trivial, rfl⟩, fun hl => ⟨fun _ => ⟨trivial, rfl⟩, fun hs => ?_⟩⟩
  have hl : l.length ≤ 20 := by have := of_decide_eq_false hl; rw [List.length_map] at this; omega
  have hs : s.length ≤ 10 := by have := of_decide_eq_false hs; rw [List.length_map] at this; omega
  have hw := allW_few o s l
  have h3 : s.length * (l.length + 1) ≤ 10 * 21 := Nat.mul_le_mul (by omega) (by omega)
  simp only [whole_row, deS_map, deSp_map, deW_map, zLe, true_and, and_true, eq_self, beq_self_eq_true, eq_true (show l.length ≤ 1000000 by omega), eq_true (show l.length ≤ 1000 by omega), eq_true (show s.length ≤ 1000 by omega), eq_true (show s.length ≤ 1000000 by omega), eq_true (show s.length < 1001 by omega), eq_true (show (allW o s l).length ≤ 1000000 by omega)]
  rfl

theorem planInserts14_law (o : Int) (l : List Sl) (v w m n : BitVec 64) (k j : Int) : ∃ hs, run l14Cs Try.prog 5 [.int .i64 o, .vsl 0 0 (l.map slE).length, .agg [.w64 v, .w64 w, .w64 m, .w64 n, .int .i64 k, .int .i64 j]] [some ⟨false, 66, 7, true, l.map slE⟩] hs isTrue := by
  refine ⟨[.fork [] [.br true, .br true]], ?_⟩
  rw [planInserts14_run]; (conv => zeta)
  refine ⟨fun _ => ⟨trivial, rfl⟩, fun hl => ?_⟩
  have hl : l.length ≤ 20 := by have := of_decide_eq_false hl; rw [List.length_map] at this; omega
  have hw := oneW_few o l ⟨0, v, w, m, n, k, j⟩
  have hv := wO_few o l ⟨v, w, m, n, k, j⟩
  simp only [whole_row, deS_map, deW_map, zLe, true_and, and_true, eq_self, eq_true (show l.length ≤ 1000000 by omega), eq_true (show (oneW o l ⟨0, v, w, m, n, k, j⟩).length ≤ 1000000 by omega), eq_true (show (wO o l ⟨v, w, m, n, k, j⟩).length ≤ 1000000 by omega)]
  obtain ⟨e1, e2⟩ := one_add o l ⟨v, w, m, n, k, j⟩
  rw [e1, e2]
  exact ⟨decide_eq_true rfl, beq_self_eq_true _⟩

end Go.Proofs.Ytcabofadpheomaa.L1
