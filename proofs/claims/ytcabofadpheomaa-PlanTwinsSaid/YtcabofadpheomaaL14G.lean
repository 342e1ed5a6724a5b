/-
  Layer 14: the laws PlanTwins, PlanSets: their conditions, their proofs.
-/
import Derived.Test.YtcabofadpheomaaL14a
namespace Go.Proofs.Ytcabofadpheomaa.L1
open Go.Sx Go.Sx.M

def tn14W (l : List Sl) : List Wr := twW l l.length
def tn14L (l : List Sl) (p : Nat) : List Sl := apL l ((tn14W l).take p)
def tn14R (l : List Sl) (a b : BitVec 64) : List (Option Blk) := [some ⟨false, 66, 7, true, l.map slE⟩, some ⟨true, 25, 2, true, [.agg [.w64 a, .w64 b]]⟩]
def tn14S (l : List Sl) (a b : BitVec 64) : St :=
  ⟨[.vsl 0 0 (l.map slE).length, .any, .any, .ptr 1 0 0 true, .any, .any, .vsl 0 0 (l.map slE).length, .any, .any, .any, .any, .any, .any, .any, .any, .any, .any, .any, .any, .any, .any, .any, .vsl 2 0 ((tn14W l).map wrE).length, .int .i64 ((tn14W l).map wrE).length, .int .i64 0, .any, .any, .any, .any, .any, .any, .any, .any, .any, .any, .any, .any, .any, .any, .any, .any, .any, .any, .any, .any, .any, .any], tn14R l a b ++ [some ⟨true, 68, 8, true, (tn14W l).map wrE⟩]⟩
def tn14S2 (l : List Sl) (a b : BitVec 64) (p : Nat) : St :=
  ⟨[.vsl 0 0 (l.map slE).length, .any, .any, .ptr 1 0 0 true, .any, .any, .vsl 2 0 ((tn14L l p).map slE).length, .any, .any, .any, .any, .any, .any, .any, .any, .any, .any, .any, .any, .any, .any, .any, .vsl 3 0 ((tn14W l).map wrE).length, .int .i64 ((tn14W l).map wrE).length, .int .i64 p, .any, .any, .any, .any, .any, .any, .any, .any, .any, .any, .any, .any, .any, .any, .any, .any, .any, .any, .any, .any, .any, .any], tn14R l a b ++ [some ⟨true, 66, 7, true, (tn14L l p).map slE⟩, some ⟨true, 68, 8, true, (tn14W l).map wrE⟩]⟩
def tn14M0 : Modes := ⟨[1, 0, 0, 1, 0, 0, 1, 0, 0, 0, 0, 0, 0, 0, 0, 0, 0, 0, 0, 0, 0, 0, 1, 1, 2, 0, 0, 0, 0, 0, 0, 0, 0, 0, 0, 0, 0, 0, 0, 0, 0, 0, 0, 0, 0, 0, 0], [], [], [], []⟩
def tn14M : Modes := ⟨[1, 0, 0, 1, 0, 0, 1, 0, 0, 0, 0, 0, 0, 0, 0, 0, 0, 0, 0, 0, 0, 0, 1, 1, 1, 0, 0, 0, 0, 0, 0, 0, 0, 0, 0, 0, 0, 0, 0, 0, 0, 0, 0, 0, 0, 0, 0], [], [], [], []⟩
def tn14M' : Modes := ⟨[0, 0, 0, 0, 2, 0, 1, 0, 0, 0, 0, 0, 0, 0, 0, 0, 0, 0, 0, 0, 0, 0, 0, 0, 0, 0, 0, 0, 0, 0, 0, 0, 0, 0, 0, 0, 0, 0, 0, 0, 0, 0, 0, 0, 0, 0, 0], [], [], [], []⟩
def tn14I (l : List Sl) (p : Nat) : List Hint := [.fork [.dy, .cell (wrE (at' (tn14W l) p)), .nm ((tn14L l (p + 1)).map slE), .br false, .nw] []]
def tn14H (l : List Sl) (a b : BitVec 64) : List Hint := [.fork [] [.nm ((tn14W l).map wrE), .br false, .linw Unit Nat () (fun _ => tn14S l a b) (tn14S2 l a b) (fun _ => True) (fun p => p ≤ (tn14W l).length) (fun _ => (tn14W l).length + 1) (fun p => (tn14W l).length + 1 - p) tn14M0 tn14M tn14M'
    (fun _ => [.br true]) (fun _ => [.br true]) (fun _ => tn14I l 0) (tn14I l)]]

theorem planTwins14_run (l : List Sl) (a b : BitVec 64) : run l14Cs Try.prog 6 [.vsl 0 0 (l.map slE).length, .agg [.w64 a, .w64 b]] [some ⟨false, 66, 7, true, l.map slE⟩] (tn14H l a b) isTrue =
    (let ai := (1 : Int); let ae := Blk.mk true; let aa := ae (66 : TypeId) (7 : Nat) true; let X := AV.w64; let R := (9223372036854775807 : Nat); let Q := (0 : Int); let F := List.map wrE; let E := (1000000 : Nat); let D := ae (25 : TypeId) (2 : Nat) true [AV.agg [X a, X b]]; let z := AV.int IntKind.i64; let y := tn14W l; let J := List.length y; let v := ae (68 : TypeId) (8 : Nat) true (F y); let u := (1 : Nat); let r := AV.any; let p := List.length (F y); let O := (↑(p) : Int); let al := Decidable.decide (Q < O); let o := (0 : Nat); let af := AV.vsl (o + u + u + u) o (p); let ab := AV.vsl (o + u + u) o; let Y := AV.ptr (o + u) o o true; let N := List.take (p) (List.drop o (F y)); let K := Sl.e (Wr.s (at' y o)); let k := List.map slE; let T := k (tn14L l (o + u)); let G := List.length (T); let C := Blk.mk false (66 : TypeId) (7 : Nat) true (k l); let w := List.take (G) (List.drop o (T)); let t := List.length (k l); let ac := o + t ≤ t; let Z := Decidable.decide ((↑(t) : Int) > (20 : Int)); let S := AV.vsl o o (t); let B := List.take (t) (List.drop o (k l)); let m := St.mk [S, r, r, Y, r, r, ab (G), r, r, r, r, r, r, r, r, r, r, r, r, r, r, r, af, z O, z (Q + ai), r, r, r, r, r, r, r, r, r, r, r, r, r, r, r, r, r, r, r, r, r, r] [some C, some D, some (aa (T)), some v]; let j := St.mk [S, r, r, AV.ptr u o o true, r, r, S, r, r, r, r, r, r, r, r, r, r, r, r, r, r, r, AV.vsl (2 : Nat) o (p), z O, z Q, r, r, r, r, r, r, r, r, r, r, r, r, r, r, r, r, r, r, r, r, r, r] ([some C, some D] ++ [some v]); let g := AV.agg [z (at' y o).1, AV.bool (Wr.s (at' y o)).1, X K.1, X K.2, X K.3, X K.4, z K.5, z K.6]; let f := deS (B); let ah := B = k f; let ad := List.length (k f); let P := List.length f; let ag := List.length (F (twW f (P))); let A := List.take (ad) (List.drop o (k f)); let aj := deS (A); let h := F (twW aj (List.length aj)); let ak := List.length h; let I := List.take (ak) (List.drop o h);((Z = true → True ∧ true = true) ∧ (Z = false → ac ∧ ah ∧ P ≤ E ∧ (F (twW f (P)) = F y ∧ ag = p) ∧ ac ∧ ah ∧ P ≤ E ∧ o + ad ≤ ad ∧ A = k aj ∧ List.length aj ≤ E ∧ o + p ≤ p ∧ o + ak ≤ ak ∧ N = F (deW (N)) ∧ List.length (deW (N)) ≤ E ∧ I = F (deW (I)) ∧ List.length (deW (I)) ≤ E ∧ (!Decidable.decide (deW (N) = deW (I))) = false ∧ (St.mk [S, r, r, Y, r, r, S, r, r, r, r, r, r, r, r, r, r, r, r, r, r, r, ab (p), z O, z Q, r, r, r, r, r, r, r, r, r, r, r, r, r, r, r, r, r, r, r, r, r, r] [some C, some (ae (25 : Nat) (2 : Nat) true [AV.agg [X a, X b]]), some v] = j ∧ True) ∧ (∀ (_ : Unit), True → (al = true → (Q ≤ Q ∧ Q < O) ∧ Blk.read Proofs.Try.prog v (68 : Nat) (o + Int.toNat Q) o = some (g) ∧ ac ∧ ah ∧ P ≤ E ∧ [g] = [g] ∧ List.length (deW [g]) ≤ E ∧ (k (apL f (deW [g])) = T ∧ List.length (k (apL f (deW [g]))) = G) ∧ o + G ≤ G ∧ w = k (deS (w)) ∧ List.length (deS (w)) ≤ R ∧ ac ∧ ah ∧ P ≤ R ∧ (tlS (deS (w)) a b != tlS f a b) = false ∧ inRange IntKind.i64 (Q + ai) ∧ ((∃ (_ : Unit), m = j ∧ True ∧ J + u < J + u) ∨ ∃ (c : Nat), m = tn14S2 l a b c ∧ Nat.le c (J) ∧ J + u - c < J + u)) ∧ (al = false → ac ∧ ah ∧ P ≤ E ∧ ((↑(ag) : Int) == Q) = true ∧ True ∧ true = true)) ∧ ∀ (d : Nat), let W := (↑d : Int); let am := Decidable.decide (W < O); let U := k (tn14L l (d + u)); let M := List.length (k (tn14L l d)); let L := Sl.e (Wr.s (at' y d)); let H := List.length (U); let x := List.take (H) (List.drop o (U)); let s := List.take (M) (List.drop o (k (tn14L l d))); let V := deS (s); let an := List.length V; let n := St.mk [S, r, r, Y, r, r, ab (H), r, r, r, r, r, r, r, r, r, r, r, r, r, r, r, af, z O, z (W + ai), r, r, r, r, r, r, r, r, r, r, r, r, r, r, r, r, r, r, r, r, r, r] [some C, some D, some (aa (U)), some v]; let i := AV.agg [z (at' y d).1, AV.bool (Wr.s (at' y d)).1, X L.1, X L.2, X L.3, X L.4, z L.5, z L.6]; Nat.le d (J) → (am = true → (Q ≤ W ∧ W < O) ∧ Blk.read Proofs.Try.prog v (68 : Nat) (o + Int.toNat W) o = some (i) ∧ o + M ≤ M ∧ s = k V ∧ an ≤ E ∧ [i] = [i] ∧ List.length (deW [i]) ≤ E ∧ (k (apL V (deW [i])) = U ∧ List.length (k (apL V (deW [i]))) = H) ∧ o + H ≤ H ∧ x = k (deS (x)) ∧ List.length (deS (x)) ≤ R ∧ ac ∧ ah ∧ P ≤ R ∧ (tlS (deS (x)) a b != tlS f a b) = false ∧ inRange IntKind.i64 (W + ai) ∧ ((∃ (_ : Unit), n = j ∧ True ∧ J + u < J + u - d) ∨ ∃ (e : Nat), n = tn14S2 l a b e ∧ Nat.le e (J) ∧ J + u - e < J + u - d)) ∧ (am = false → o + M ≤ M ∧ s = k V ∧ an ≤ E ∧ ((↑(List.length (F (twW V (an)))) : Int) == Q) = true ∧ True ∧ true = true)))) := by kernel_rfl

theorem planTwins14_law (l : List Sl) (a b : BitVec 64) : ∃ hs, run l14Cs Try.prog 6 [.vsl 0 0 (l.map slE).length, .agg [.w64 a, .w64 b]] [some ⟨false, 66, 7, true, l.map slE⟩] hs isTrue := by
  refine ⟨(tn14H l a b), ?_⟩
  rw [planTwins14_run]; (conv => zeta)
  refine ⟨fun _ => ⟨trivial, rfl⟩, fun hl => ?_⟩
  have hl : l.length ≤ 20 := by have := of_decide_eq_false hl; rw [List.length_map] at this; omega
  have hW : (tn14W l).length ≤ l.length := twW_length l l.length
  have hWm : ((tn14W l).map wrE).length = (tn14W l).length := List.length_map _
  have hlen : ∀ p, (tn14L l p).length = l.length := fun p => apL_length _ _
  have hlen6 : ∀ p, ((tn14L l p).length ≤ 1000000) = True := fun p => eq_true (by rw [hlen]; omega)
  have hlenm : ∀ p, ((tn14L l p).length ≤ 9223372036854775807) = True := fun p => eq_true (by rw [hlen]; omega)
  have nx : ∀ {p}, p < (tn14W l).length → apL (tn14L l p) [at' (tn14W l) p] = tn14L l (p + 1) := fun hp => by
    unfold tn14L
    rw [take_one hp, apL_append]
  have tell : ∀ p, p ≤ (tn14W l).length → tlS (tn14L l p) a b = tlS l a b := fun p hp => by
    obtain ⟨i, hi, e⟩ := tw_take l l.length p hp
    have : tn14L l p = twL l i := congrArg (apL l) e
    rw [this, tw_tls l a b hi]
  have done : ∀ p, p = (tn14W l).length → twW (tn14L l p) l.length = [] := fun p hp => by
    subst hp
    have : tn14L l (tn14W l).length = twL l l.length := by
      unfold tn14L
      rw [List.take_length]; rfl
    rw [this]
    exact tw_done l l.length (Nat.le_refl _)
  have one : ∀ x : Wr, deW [.agg [.int .i64 x.p, .bool x.s.ok, .w64 x.s.e.v, .w64 x.s.e.w, .w64 x.s.e.m, .w64 x.s.e.n, .int .i64 x.s.e.len, .int .i64 x.s.e.act]] = [x] := fun _ => rfl
  simp only [whole_row, deS_map, deW_map, one, hlen, zLe, true_and, and_true, eq_self, eq_true (show l.length ≤ 1000000 by omega), eq_true (show l.length ≤ 9223372036854775807 by omega)]
  refine ⟨⟨rfl, rfl⟩, by omega, (show (tn14W l).length ≤ 1000000 by omega), by simp [tn14W], rfl, fun _ _ => ⟨fun hp => ?_, fun hp => ?_⟩, fun q hq => ⟨fun hp => ?_, fun hp => ?_⟩⟩
  · have hp : 0 < (tn14W l).length := by have := of_decide_eq_true hp; omega
    have e := nx (p := 0) hp
    have e : apL l [at' (tn14W l) 0] = tn14L l (0 + 1) := e
    exact ⟨⟨Int.le_refl _, by omega⟩, read_rows (Int.le_refl _) (by omega) (wr_whole _), by simp, ⟨congrArg (List.map slE) e, congrArg (fun x => (List.map slE x).length) e⟩,
      by rw [tell _ (by omega)]; simp, inR (by omega) (by omega), .inr ⟨0 + 1, rfl, hp, by omega⟩⟩
  · have hp : (tn14W l).length = 0 := by have := of_decide_eq_false hp; omega
    have e := done 0 hp.symm
    have e : twW l l.length = [] := e
    rw [e]; rfl
  · have hp : q < (tn14W l).length := by have := of_decide_eq_true hp; omega
    have e := nx hp
    exact ⟨⟨by omega, by omega⟩, read_rows (by omega) (by omega) (wr_whole _), by simp, ⟨congrArg (List.map slE) e, congrArg (fun x => (List.map slE x).length) e⟩,
      by rw [tell _ (by omega)]; simp, inR (by omega) (by omega), .inr ⟨q + 1, rfl, hp, by omega⟩⟩
  · have hp : q = (tn14W l).length := by have := of_decide_eq_false hp; have : q ≤ (tn14W l).length := hq; omega
    have e := done q hp
    rw [e]; rfl

end Go.Proofs.Ytcabofadpheomaa.L1
