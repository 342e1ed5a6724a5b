/-
  Layer 14: the law PlanSets: its condition, its proof.
-/
import Derived.Test.YtcabofadpheomaaL14a
namespace Go.Proofs.Ytcabofadpheomaa.L1
open Go.Sx Go.Sx.M

def se14 (x : En) : Sp := ⟨1, x⟩
def de14 (x : En) : Sp := ⟨2, x⟩
def seW (o : Int) (l : List Sl) (x : En) : List Wr := oneW o l ⟨1, x⟩
def deW' (o : Int) (l : List Sl) (x : En) : List Wr := oneW o l ⟨2, x⟩
def seL (o : Int) (l : List Sl) (x : En) : List Sl := apL l (seW o l x)
def deL' (o : Int) (l : List Sl) (x : En) : List Sl := apL l (deW' o l x)
def seC (l : List Sl) (x : En) (p : Nat) : Int := ((tcW l ⟨1, x⟩ p).length : Nat)
def deC' (l : List Sl) (x : En) (p : Nat) : Int := ((tcW l ⟨2, x⟩ p).length : Nat)
def se14S (o : Int) (l : List Sl) (x : En) (p : Nat) : St :=
  ⟨[.any, .vsl 0 0 (l.map slE).length, .any, .any, .any, .ptr 1 0 0 true, .any, .vsl 2 0 ((seW o l x).map wrE).length, .int .i64 (oneE o l ⟨1, x⟩), .vsl 3 0 ((deW' o l x).map wrE).length, .int .i64 (oneE o l ⟨2, x⟩), .vsl 4 0 ((seL o l x).map slE).length, .vsl 5 0 ((deL' o l x).map slE).length, .int .i64 (seC l x p), .int .i64 (deC' l x p), .any, .any, .any, .any, .any, .any, .any, .any, .any, .any, .any, .any, .any, .any, .any, .any, .any, .any, .any, .any, .any, .any, .any, .any, .any, .any, .any, .any, .any, .any, .any, .any, .any, .any, .any, .any, .any, .any, .vsl 0 0 (l.map slE).length, .int .i64 (l.map slE).length, .int .i64 p, .any, .any, .any, .any, .any, .any, .any, .any, .any, .any, .any, .any, .any, .any, .any, .any, .any, .any, .any, .any, .any, .any, .any, .any, .any, .any, .any, .any, .any, .any, .any, .any, .any, .any, .any, .any, .any, .any, .any, .any, .any, .any, .any, .any, .any, .any, .any, .any, .any, .any, .any, .any, .any, .any, .any, .any, .any, .any, .any, .any, .any, .any, .any, .any, .any, .any, .any, .any, .any, .any, .any, .any], [some ⟨false, 66, 7, true, l.map slE⟩, some ⟨true, 29, 6, true, [enE x]⟩, some ⟨true, 68, 8, true, (seW o l x).map wrE⟩, some ⟨true, 68, 8, true, (deW' o l x).map wrE⟩, some ⟨true, 66, 7, true, (seL o l x).map slE⟩, some ⟨true, 66, 7, true, (deL' o l x).map slE⟩]⟩
def se14M0 : Modes := ⟨[0, 1, 0, 0, 0, 1, 0, 1, 1, 1, 1, 1, 1, 2, 2, 0, 0, 0, 0, 0, 0, 0, 0, 0, 0, 0, 0, 0, 0, 0, 0, 0, 0, 0, 0, 0, 0, 0, 0, 0, 0, 0, 0, 0, 0, 0, 0, 0, 0, 0, 0, 0, 0, 1, 1, 2, 0, 0, 0, 0, 0, 0, 0, 0, 0, 0, 0, 0, 0, 0, 0, 0, 0, 0, 0, 0, 0, 0, 0, 0, 0, 0, 0, 0, 0, 0, 0, 0, 0, 0, 0, 0, 0, 0, 0, 0, 0, 0, 0, 0, 0, 0, 0, 0, 0, 0, 0, 0, 0, 0, 0, 0, 0, 0, 0, 0, 0, 0, 0, 0, 0, 0, 0, 0, 0, 0, 0, 0], [], [], [], []⟩
def se14M : Modes := ⟨[0, 1, 0, 0, 0, 1, 0, 1, 1, 1, 1, 1, 1, 1, 1, 0, 0, 0, 0, 0, 0, 0, 0, 0, 0, 0, 0, 0, 0, 0, 0, 0, 0, 0, 0, 0, 0, 0, 0, 0, 0, 0, 0, 0, 0, 0, 0, 0, 0, 0, 0, 0, 0, 1, 1, 1, 0, 0, 0, 0, 0, 0, 0, 0, 0, 0, 0, 0, 0, 0, 0, 0, 0, 0, 0, 0, 0, 0, 0, 0, 0, 0, 0, 0, 0, 0, 0, 0, 0, 0, 0, 0, 0, 0, 0, 0, 0, 0, 0, 0, 0, 0, 0, 0, 0, 0, 0, 0, 0, 0, 0, 0, 0, 0, 0, 0, 0, 0, 0, 0, 0, 0, 0, 0, 0, 0, 0, 0], [], [], [], []⟩
def se14M' : Modes := ⟨[0, 0, 0, 0, 0, 0, 0, 1, 1, 1, 1, 0, 0, 1, 1, 0, 0, 0, 0, 0, 0, 0, 0, 0, 0, 0, 0, 0, 0, 0, 0, 0, 0, 0, 0, 0, 0, 0, 0, 0, 0, 0, 0, 0, 0, 0, 0, 0, 0, 0, 0, 0, 0, 0, 0, 0, 0, 0, 0, 0, 0, 0, 0, 0, 0, 0, 0, 0, 0, 0, 0, 0, 0, 0, 0, 0, 0, 0, 0, 0, 0, 0, 0, 0, 0, 0, 0, 0, 0, 0, 0, 0, 0, 0, 0, 0, 0, 0, 0, 0, 0, 0, 0, 0, 0, 0, 0, 0, 0, 0, 0, 0, 0, 0, 0, 0, 0, 0, 0, 0, 0, 0, 0, 0, 0, 0, 0, 0], [], [], [], []⟩
def se14Z (o : Int) (l : List Sl) (x : En) (p : Nat) : List Hint := [.dy, .cell (enE (at' (seL o l x) p).e), .br false, .dy, .cell (.bool (at' (deL' o l x) p).ok), .br false, .nw]
def se14Y (o : Int) (l : List Sl) (x : En) (p : Nat) : List Hint := [.dy, .cell (slE (at' (seL o l x) p)), .br false, .dy, .cell (slE (at' (deL' o l x) p)), .br false, .nw]
def se14I (o : Int) (l : List Sl) (x : En) (p : Nat) : List Hint := [.fork [.dy, .cell (slE (at' l p)), .fork [.fork [.nw, .fork (.nw :: se14Z o l x p) (se14Z o l x p)] (se14Y o l x p)] (se14Y o l x p)] []]
def se14H (o : Int) (l : List Sl) (x : En) : List Hint := [.fork [] [.fork [] [.fork [] [.nm ((seL o l x).map slE), .nm ((deL' o l x).map slE), .linv Nat 0 (se14S o l x) (fun p => p ≤ l.length) (fun p => l.length + 1 - p) se14M0 se14M se14M' (fun _ => [.br true, .br true, .br true, .br true]) (se14I o l x)]]]]

theorem planSets14_run (o : Int) (l : List Sl) (x : En) : run l14Cs Try.prog 7 [.int .i64 o, .vsl 0 0 (l.map slE).length, .agg [.w64 x.v, .w64 x.w, .w64 x.m, .w64 x.n, .int .i64 x.len, .int .i64 x.act]] [some ⟨false, 66, 7, true, l.map slE⟩] (se14H o l x) isTrue =
    (let aH := AV.vsl; let aF := true = true; let aD := Blk.mk true; let aB := (1000000 : Nat); let aq := se14S o l x; let ah := seL o l x; let ag := oneE o l (Sp.mk (2 : Int) x); let ad := inRange IntKind.i64; let aa := AV.w64; let V := (0 : Int); let T := aD (68 : TypeId) (8 : Nat) true; let S := (1 : Int); let al := oneE o l (Sp.mk S x); let P := List.map wrE; let aA := List.length (P (seW o l x)); let ay := List.length (P (deW' o l x)); let N := List.length l; let H := En.mk x.1 x.2 x.3 x.4 x.5; let aE := H x.6; let D := deL' o l x; let B := aD (66 : TypeId) (7 : Nat) true; let z := (1 : Nat); let t := AV.int IntKind.i64; let am := [AV.agg [aa x.1, aa x.2, aa x.3, aa x.4, t x.5, t x.6]]; let s := (0 : Nat); let aj := AV.ptr (s + z) s s true; let Z := aH (s + z + z) s aA; let U := aH (s + z + z + z) s ay; let r := List.map slE; let aI := B (r D); let aG := B (r ah); let az := List.length (r D); let Y := Blk.mk false (66 : TypeId) (7 : Nat) true (r l); let L := aH (s + z + z + z + z + z) s (az); let E := List.length (r ah); let ab := aH (s + z + z + z + z) s (E); let A := List.length (r l); let aM := s + A ≤ A; let af := (↑(A) : Int); let av := Decidable.decide (af > (20 : Int)); let ae := aH s s (A); let R := List.take (A) (List.drop s (r l)); let j := [some Y, some (aD (29 : TypeId) (6 : Nat) true am), some (T (P (seW o l x))), some (T (P (deW' o l x))), some aG, some aI]; let h := AV.any; let f := deS (R); let ac := List.length f ≤ aB; let q := P (oneW o f (Sp.mk (2 : Int) aE)); let ar := List.length q; let K := List.take (ar) (List.drop s q); let aK := deW (K); let k := P (oneW o f (Sp.mk S aE)); let au := List.length k; let J := List.take (au) (List.drop s k); let aJ := deW (J);((av = true → True ∧ aF) ∧ (av = false → ((!isO o) = true → True ∧ aF) ∧ ((!isO o) = false → ((!rtE aE) = true → True ∧ aF) ∧ ((!rtE aE) = false → aM ∧ R = r f ∧ ac ∧ aM ∧ R = r f ∧ ac ∧ aM ∧ s + au ≤ au ∧ R = r f ∧ ac ∧ J = P aJ ∧ List.length aJ ≤ aB ∧ (r (apL f aJ) = r ah ∧ List.length (r (apL f aJ)) = E) ∧ aM ∧ s + ar ≤ ar ∧ R = r f ∧ ac ∧ K = P aK ∧ List.length aK ≤ aB ∧ (r (apL f aK) = r D ∧ List.length (r (apL f aK)) = az) ∧ (St.mk [h, ae, h, h, h, aj, h, aH (s + z + z) s (au), t (oneE o f (Sp.mk S aE)), aH (s + z + z + z) s (ar), t (oneE o f (Sp.mk (2 : Int) aE)), ab, L, t V, t V, h, h, h, h, h, h, h, h, h, h, h, h, h, h, h, h, h, h, h, h, h, h, h, h, h, h, h, h, h, h, h, h, h, h, h, h, h, h, ae, t af, t V, h, h, h, h, h, h, h, h, h, h, h, h, h, h, h, h, h, h, h, h, h, h, h, h, h, h, h, h, h, h, h, h, h, h, h, h, h, h, h, h, h, h, h, h, h, h, h, h, h, h, h, h, h, h, h, h, h, h, h, h, h, h, h, h, h, h, h, h, h, h, h, h] [some Y, some (aD (29 : Nat) (6 : Nat) true am), some (T k), some (T q), some aG, some aI] = aq s ∧ Nat.le s (N)) ∧ ∀ (a : Nat), let aC := seC l x a; let aw := deC' l x a; let ao := at' l a; let an := at' D a; let C := (↑a : Int); let aL := Decidable.decide (C < af); let ax := C + S; let ak := s + Int.toNat C; let ai := V ≤ C ∧ C < (↑(E) : Int); let X := Blk.read Proofs.Try.prog aI (4 : Nat) ak (s + s) = some (AV.bool an.1); let M := V ≤ C ∧ C < (↑(az) : Int); let y := Sl.e ao; let ap := alE (En.mk y.1 y.2 y.3 y.4 y.5 V) (H V); let u := Sl.e an; let Q := (!(an.1 == ao.1 && (u.1 == y.1 && u.2 == y.2 && (u.3 == y.3 && u.4 == y.4) && (u.5 == y.5 && u.6 == y.6)))) = false; let G := Blk.read Proofs.Try.prog aI (66 : Nat) ak s = some (AV.agg [AV.bool an.1, aa u.1, aa u.2, aa u.3, aa u.4, t u.5, t u.6]); let i := Sl.e (at' ah a); let W := (!(i.1 == x.1 && i.2 == x.2 && (i.3 == x.3 && i.4 == x.4) && (i.5 == x.5 && i.6 == x.6))) = false; let O := (!((at' ah a).1 == ao.1 && (i.1 == y.1 && i.2 == y.2 && (i.3 == y.3 && i.4 == y.4) && (i.5 == y.5 && i.6 == y.6)))) = false; let I := Blk.read Proofs.Try.prog aG (29 : Nat) ak (s + z) = some (AV.agg [aa i.1, aa i.2, aa i.3, aa i.4, t i.5, t i.6]); let F := Blk.read Proofs.Try.prog aG (66 : Nat) ak s = some (AV.agg [AV.bool (at' ah a).1, aa i.1, aa i.2, aa i.3, aa i.4, t i.5, t i.6]); let g := St.mk [h, ae, h, h, h, aj, h, Z, t (al), U, t (ag), ab, L, t (aC), t (aw), h, h, h, h, h, h, h, h, h, h, h, h, h, h, h, h, h, h, h, h, h, h, h, h, h, h, h, h, h, h, h, h, h, h, h, h, h, h, ae, t af, t ax, h, h, h, h, h, h, h, h, h, h, h, h, h, h, h, h, h, h, h, h, h, h, h, h, h, h, h, h, h, h, h, h, h, h, h, h, h, h, h, h, h, h, h, h, h, h, h, h, h, h, h, h, h, h, h, h, h, h, h, h, h, h, h, h, h, h, h, h, h, h, h, h] j; Nat.le a (N) → (aL = true → (V ≤ C ∧ C < af) ∧ Blk.read Proofs.Try.prog Y (66 : Nat) ak s = some (AV.agg [AV.bool ao.1, aa y.1, aa y.2, aa y.3, aa y.4, t y.5, t y.6]) ∧ (ao.1 = true → (ap = true → ad (aw + S) ∧ ((y.6 != x.6) = true → ad (aC + S) ∧ ai ∧ I ∧ W ∧ M ∧ X ∧ an.1 = false ∧ ad ax ∧ ∃ (b : Nat), St.mk [h, ae, h, h, h, aj, h, Z, t (al), U, t (ag), ab, L, t (aC + S), t (aw + S), h, h, h, h, h, h, h, h, h, h, h, h, h, h, h, h, h, h, h, h, h, h, h, h, h, h, h, h, h, h, h, h, h, h, h, h, h, h, ae, t af, t ax, h, h, h, h, h, h, h, h, h, h, h, h, h, h, h, h, h, h, h, h, h, h, h, h, h, h, h, h, h, h, h, h, h, h, h, h, h, h, h, h, h, h, h, h, h, h, h, h, h, h, h, h, h, h, h, h, h, h, h, h, h, h, h, h, h, h, h, h, h, h, h, h] j = aq b ∧ Nat.le b (N) ∧ N + z - b < N + z - a) ∧ ((y.6 != x.6) = false → ai ∧ I ∧ W ∧ M ∧ X ∧ an.1 = false ∧ ad ax ∧ ∃ (c : Nat), St.mk [h, ae, h, h, h, aj, h, Z, t (al), U, t (ag), ab, L, t (aC), t (aw + S), h, h, h, h, h, h, h, h, h, h, h, h, h, h, h, h, h, h, h, h, h, h, h, h, h, h, h, h, h, h, h, h, h, h, h, h, h, h, ae, t af, t ax, h, h, h, h, h, h, h, h, h, h, h, h, h, h, h, h, h, h, h, h, h, h, h, h, h, h, h, h, h, h, h, h, h, h, h, h, h, h, h, h, h, h, h, h, h, h, h, h, h, h, h, h, h, h, h, h, h, h, h, h, h, h, h, h, h, h, h, h, h, h, h, h] j = aq c ∧ Nat.le c (N) ∧ N + z - c < N + z - a)) ∧ (ap = false → ai ∧ F ∧ O ∧ M ∧ G ∧ Q ∧ ad ax ∧ ∃ (d : Nat), g = aq d ∧ Nat.le d (N) ∧ N + z - d < N + z - a)) ∧ (ao.1 = false → ai ∧ F ∧ O ∧ M ∧ G ∧ Q ∧ ad ax ∧ ∃ (e : Nat), g = aq e ∧ Nat.le e (N) ∧ N + z - e < N + z - a)) ∧ (aL = false → (al == V) = true ∧ (ag == V) = true ∧ ((↑aA : Int) == aC) = true ∧ ((↑ay : Int) == aw) = true ∧ True ∧ aF)))))) := by kernel_rfl

theorem sl_entry14 (x : Sl) : partOf Try.prog 29 (slE x).cells 1 = some (enE x.e) := by kernel_rfl

theorem planSets14_law (o : Int) (l : List Sl) (x : En) : ∃ hs, run l14Cs Try.prog 7 [.int .i64 o, .vsl 0 0 (l.map slE).length, .agg [.w64 x.v, .w64 x.w, .w64 x.m, .w64 x.n, .int .i64 x.len, .int .i64 x.act]] [some ⟨false, 66, 7, true, l.map slE⟩] hs isTrue := by
  refine ⟨(se14H o l x), ?_⟩
  rw [planSets14_run]; (conv => zeta)
  refine ⟨fun _ => ⟨trivial, rfl⟩, fun hl => ⟨fun _ => ⟨trivial, rfl⟩, fun ho => ⟨fun _ => ⟨trivial, rfl⟩, fun hr => ?_⟩⟩⟩
  have hl : l.length ≤ 20 := by have := of_decide_eq_false hl; rw [List.length_map] at this; omega
  have ho : isO o = true := by simpa using ho
  have hr : rtE x = true := by
    have hr : (!rtE x) = false := hr
    simpa using hr
  have k1 : okP o ⟨1, x⟩ = true := by unfold okP; rw [ho]; simp [hr]
  have k2 : okP o ⟨2, x⟩ = true := by unfold okP; rw [ho]; simp [hr]
  have w1 : seW o l x = tcW l ⟨1, x⟩ l.length := by unfold seW oneW; rw [if_pos k1, if_neg (by simp)]
  have w2 : deW' o l x = tcW l ⟨2, x⟩ l.length := by unfold deW' oneW; rw [if_pos k2, if_neg (by simp)]
  have e1 : oneE o l ⟨1, x⟩ = 0 := by unfold oneE; rw [if_pos k1, if_neg (by simp)]
  have e2 : oneE o l ⟨2, x⟩ = 0 := by unfold oneE; rw [if_pos k2, if_neg (by simp)]
  have n1 : (seW o l x).length ≤ l.length := by rw [w1]; exact tcW_length _ _ _
  have n2 : (deW' o l x).length ≤ l.length := by rw [w2]; exact tcW_length _ _ _
  have m1 : (seL o l x).length = l.length := apL_length _ _
  have m2 : (deL' o l x).length = l.length := apL_length _ _
  have a1 : ∀ p, p < l.length → at' (seL o l x) p = tcS ⟨1, x⟩ (at' l p) := fun p hp => by
    unfold seL; rw [w1, tc_at hr l.length (Nat.le_refl _), if_pos hp]
  have a2 : ∀ p, p < l.length → at' (deL' o l x) p = tcS ⟨2, x⟩ (at' l p) := fun p hp => by
    unfold deL'; rw [w2, tc_at hr l.length (Nat.le_refl _), if_pos hp]
  have ex : (⟨x.v, x.w, x.m, x.n, x.len, x.act⟩ : En) = x := rfl
  have q1 : oneW o l ⟨1, x⟩ = seW o l x := rfl
  have q2 : oneW o l ⟨2, x⟩ = deW' o l x := rfl
  have f1 : apL l (seW o l x) = seL o l x := rfl
  have f2 : apL l (deW' o l x) = deL' o l x := rfl
  simp only [ex, whole_row, deS_map, deW_map, q1, q2, f1, f2, zLe, true_and, and_true, eq_self, eq_true (show l.length ≤ 1000000 by omega), eq_true (show (seW o l x).length ≤ 1000000 by omega), eq_true (show (deW' o l x).length ≤ 1000000 by omega)]
  refine ⟨⟨rfl, Nat.zero_le _⟩, fun p hp => ⟨fun hlt => ?_, fun hge => ?_⟩⟩
  · have hlt : p < l.length := by have := of_decide_eq_true hlt; rw [List.length_map] at this; omega
    have B : 0 ≤ (p : Int) ∧ (p : Int) < ((l.map slE).length : Int) := ⟨by omega, by rw [List.length_map]; omega⟩
    have B1 : 0 ≤ (p : Int) ∧ (p : Int) < (((seL o l x).map slE).length : Int) := ⟨by omega, by rw [List.length_map]; omega⟩
    have B2 : 0 ≤ (p : Int) ∧ (p : Int) < (((deL' o l x).map slE).length : Int) := ⟨by omega, by rw [List.length_map]; omega⟩
    have t1 := tcW_length l ⟨1, x⟩ p
    have t2 := tcW_length l ⟨2, x⟩ p
    have s1 : seC l x (p + 1) = seC l x p + ((tchW ⟨1, x⟩ p (at' l p)).length : Nat) := by unfold seC; rw [tcW, List.length_append]; omega
    have s2 : deC' l x (p + 1) = deC' l x p + ((tchW ⟨2, x⟩ p (at' l p)).length : Nat) := by unfold deC'; rw [tcW, List.length_append]; omega
    have b1 : inRange .i64 (seC l x p + 1) := inR (by unfold seC; omega) (by unfold seC; omega)
    have b2 : inRange .i64 (deC' l x p + 1) := inR (by unfold deC'; omega) (by unfold deC'; omega)
    have b3 : inRange .i64 ((p : Int) + 1) := inR (by omega) (by omega)
    have no : ∀ s : Sp, s.e = x → ((at' l p).ok && alE (at' l p).e x) = false → tcS s (at' l p) = at' l p ∧ tchW s p (at' l p) = [] := fun s hs h => by
      unfold tcS tchW
      rw [hs, h]
      exact ⟨rfl, rfl⟩
    have Y : ((at' l p).ok && alE (at' l p).e x) = false → at' (seL o l x) p = at' l p ∧ at' (deL' o l x) p = at' l p ∧ seC l x (p + 1) = seC l x p ∧ deC' l x (p + 1) = deC' l x p := fun h => by
      obtain ⟨g1, g2⟩ := no ⟨1, x⟩ rfl h
      obtain ⟨g3, g4⟩ := no ⟨2, x⟩ rfl h
      exact ⟨(a1 p hlt).trans g1, (a2 p hlt).trans g3, by rw [s1, g2]; simp, by rw [s2, g4]; simp⟩
    have X : (at' l p).ok = true → alE (at' l p).e x = true → (at' (seL o l x) p).e = x ∧ (at' (deL' o l x) p).ok = false ∧ deC' l x (p + 1) = deC' l x p + 1 ∧ seC l x (p + 1) = seC l x p + (if (at' l p).e.act ≠ x.act then 1 else 0) := fun h1 h2 => by
      have h : ((at' l p).ok && alE (at' l p).e x) = true := by rw [h1, h2]; rfl
      refine ⟨?_, ?_, ?_, ?_⟩
      · rw [a1 p hlt]; unfold tcS; rw [if_pos h, if_neg (by simp), if_pos rfl]
      · rw [a2 p hlt]; unfold tcS; rw [if_pos h, if_pos rfl]; rfl
      · rw [s2]; unfold tchW; rw [if_pos h, if_pos rfl]; rfl
      · rw [s1]; unfold tchW; rw [if_pos h, if_neg (by simp)]
        by_cases hn : (at' l p).e.act = x.act
        · rw [if_neg (fun g => g.2 hn), if_neg (fun g => g hn)]; rfl
        · rw [if_pos ⟨rfl, hn⟩, if_pos hn]; rfl
    refine ⟨B, read_rows B.1 B.2 (sl_whole _), fun hok => ⟨fun ha => ⟨b2, fun hn => ?_, fun hn => ?_⟩, fun ha => ?_⟩, fun hok => ?_⟩
    · obtain ⟨x1, x2, x3, x4⟩ := X hok ha
      have hn : (at' l p).e.act ≠ x.act := by simpa using hn
      rw [if_pos hn] at x4
      exact ⟨b1, B1, read_rows B1.1 B1.2 (sl_entry14 _), by rw [x1]; simp, B2, read_rows B2.1 B2.2 (sl_ok _), x2, b3, p + 1, by unfold se14S; rw [x3, x4]; rfl, hlt, by omega⟩
    · obtain ⟨x1, x2, x3, x4⟩ := X hok ha
      have hn : ¬ (at' l p).e.act ≠ x.act := by simpa using hn
      rw [if_neg hn, Int.add_zero] at x4
      exact ⟨B1, read_rows B1.1 B1.2 (sl_entry14 _), by rw [x1]; simp, B2, read_rows B2.1 B2.2 (sl_ok _), x2, b3, p + 1, by unfold se14S; rw [x3, x4]; rfl, hlt, by omega⟩
    · obtain ⟨y1, y2, y3, y4⟩ := Y (by rw [show alE (at' l p).e x = false from ha, Bool.and_false])
      exact ⟨B1, read_rows B1.1 B1.2 (sl_whole _), by rw [y1]; simp, B2, read_rows B2.1 B2.2 (sl_whole _), by rw [y2]; simp, b3, p + 1, by unfold se14S; rw [y3, y4]; rfl, hlt, by omega⟩
    · obtain ⟨y1, y2, y3, y4⟩ := Y (by rw [hok, Bool.false_and])
      exact ⟨B1, read_rows B1.1 B1.2 (sl_whole _), by rw [y1]; simp, B2, read_rows B2.1 B2.2 (sl_whole _), by rw [y2]; simp, b3, p + 1, by unfold se14S; rw [y3, y4]; rfl, hlt, by omega⟩
  · have hge : p = l.length := by have := of_decide_eq_false hge; rw [List.length_map] at this; have : p ≤ l.length := hp; omega
    subst hge
    rw [e1, e2, List.length_map, List.length_map, w1, w2]
    exact ⟨rfl, rfl, beq_self_eq_true _, beq_self_eq_true _⟩

end Go.Proofs.Ytcabofadpheomaa.L1
