/-
  Texts in one: L12A L12B L12T L12D.
-/
import Derived.Test.YtcabofadpheomaaL8a
import Derived.Test.YtcabofadpheomaaMa
import Derived.Test.YtcabofadpheomaaL5a
import Derived.Test.YtcabofadpheomaaSxU

section
/-
  Layer 12: the document's Kept, Gap, Lengths.
-/
namespace Go.Proofs.Ytcabofadpheomaa.L1
open Go.Sx Go.Sx.M

def rs12R (l : List Sl) : Option Blk := some ⟨false, 78, 7, true, l.map slE⟩

/-- Kept. -/
def ka12St (l : List Sl) (i : Nat) : St := ⟨[.vsl 0 0 (l.map slE).length, .any, .any, .int .i64 i, .any, .any, .any, .any, .any, .any, .any, .any, .any, .any, .any, .any, .any, .any, .any, .any, .any, .any, .any, .any, .any, .any, .any, .any, .any, .any, .any, .any, .any, .any, .any, .any, .any, .any, .any, .any, .any, .any, .any], [rs12R l]⟩
def ka12M0 : Modes := ⟨[1, 0, 0, 2, 0, 0, 0, 0, 0, 0, 0, 0, 0, 0, 0, 0, 0, 0, 0, 0, 0, 0, 0, 0, 0, 0, 0, 0, 0, 0, 0, 0, 0, 0, 0, 0, 0, 0, 0, 0, 0, 0, 0], [], [], [], []⟩
def ka12M : Modes := ⟨[1, 0, 0, 1, 0, 0, 0, 0, 0, 0, 0, 0, 0, 0, 0, 0, 0, 0, 0, 0, 0, 0, 0, 0, 0, 0, 0, 0, 0, 0, 0, 0, 0, 0, 0, 0, 0, 0, 0, 0, 0, 0, 0], [], [], [], []⟩
def ka12M' : Modes := ⟨[0, 0, 2, 0, 0, 0, 0, 0, 0, 0, 0, 0, 0, 0, 0, 0, 0, 0, 0, 0, 0, 0, 0, 0, 0, 0, 0, 0, 0, 0, 0, 0, 0, 0, 0, 0, 0, 0, 0, 0, 0, 0, 0], [], [], [], []⟩
def ka12I (l : List Sl) (i : Nat) : Prop := i ≤ l.length ∧ ∀ j, j < i → ∀ k, k < j → brS (at' l k) (at' l j) = false
def kb12St (l : List Sl) (i k : Nat) : St := ⟨[.vsl 0 0 (l.map slE).length, .any, .any, .int .i64 i, .int .i64 k, .any, .any, .any, .any, .any, .any, .any, .any, .any, .any, .any, .any, .any, .any, .any, .any, .any, .any, .any, .any, .any, .any, .any, .any, .any, .any, .any, .any, .any, .any, .any, .any, .any, .any, .any, .any, .any, .any], [rs12R l]⟩
def kb12M0 : Modes := ⟨[1, 0, 0, 1, 2, 0, 0, 0, 0, 0, 0, 0, 0, 0, 0, 0, 0, 0, 0, 0, 0, 0, 0, 0, 0, 0, 0, 0, 0, 0, 0, 0, 0, 0, 0, 0, 0, 0, 0, 0, 0, 0, 0], [], [], [], []⟩
def kb12M : Modes := ⟨[1, 0, 0, 1, 1, 0, 0, 0, 0, 0, 0, 0, 0, 0, 0, 0, 0, 0, 0, 0, 0, 0, 0, 0, 0, 0, 0, 0, 0, 0, 0, 0, 0, 0, 0, 0, 0, 0, 0, 0, 0, 0, 0], [], [], [], []⟩
def kb12M' : Modes := ⟨[1, 0, 2, 1, 0, 0, 0, 0, 0, 0, 0, 0, 0, 0, 0, 0, 0, 0, 0, 0, 0, 0, 0, 0, 0, 0, 0, 0, 0, 0, 0, 0, 0, 0, 0, 0, 0, 0, 0, 0, 0, 0, 0], [], [], [], []⟩
def kb12I (l : List Sl) (i k : Nat) : Prop := k ≤ i ∧ ∀ j, j < k → brS (at' l j) (at' l i) = false
def kb12H (l : List Sl) (i k : Nat) : List Hint := [.dy, .cell (.bool (at' l i).ok), .fork [.dy, .cell (.bool (at' l k).ok), .fork [.dy, .cell (.int .i64 (at' l i).e.len), .dy, .cell (.int .i64 (at' l k).e.len), .fork [] [.nw]] [.nw]] [.nw]]
def ka12H (l : List Sl) : List Hint := [.linv _ 0 (ka12St l) (ka12I l) (fun i => l.length + 1 - i) ka12M0 ka12M ka12M' (fun _ => []) fun i =>
  [.fork [.linv _ 0 (kb12St l i) (kb12I l i) (fun k => i + 1 - k) kb12M0 kb12M kb12M' (fun _ => [.nw]) fun k => [.fork (kb12H l i k) []]] []]]

/-- Gap. -/
def ga12St (l : List Sl) (n : Int) (i : Nat) : St := ⟨[.vsl 0 0 (l.map slE).length, .int .i64 n, .any, .any, .any, .any, .int .i64 (gpF l n i), .int .i64 i, .any, .any, .any, .any, .any, .any, .any, .any, .any, .any, .any, .any, .any, .any, .any, .any, .any, .any, .any, .any, .any, .any, .any, .any, .any, .any, .any, .any, .any, .any, .any, .any, .any, .any, .any, .any, .any, .any, .any, .any, .any, .any, .any, .any, .any, .any, .any, .any, .any, .any, .any, .any], [rs12R l]⟩
def ga12M0 : Modes := ⟨[1, 1, 0, 0, 0, 0, 2, 2, 0, 0, 0, 0, 0, 0, 0, 0, 0, 0, 0, 0, 0, 0, 0, 0, 0, 0, 0, 0, 0, 0, 0, 0, 0, 0, 0, 0, 0, 0, 0, 0, 0, 0, 0, 0, 0, 0, 0, 0, 0, 0, 0, 0, 0, 0, 0, 0, 0, 0, 0, 0], [], [], [], []⟩
def ga12M : Modes := ⟨[1, 1, 0, 0, 0, 0, 1, 1, 0, 0, 0, 0, 0, 0, 0, 0, 0, 0, 0, 0, 0, 0, 0, 0, 0, 0, 0, 0, 0, 0, 0, 0, 0, 0, 0, 0, 0, 0, 0, 0, 0, 0, 0, 0, 0, 0, 0, 0, 0, 0, 0, 0, 0, 0, 0, 0, 0, 0, 0, 0], [], [], [], []⟩
def ga12M' : Modes := ⟨[1, 1, 0, 0, 0, 0, 1, 0, 0, 0, 0, 0, 0, 0, 0, 0, 0, 0, 0, 0, 0, 0, 0, 0, 0, 0, 0, 0, 0, 0, 0, 0, 0, 0, 0, 0, 0, 0, 0, 0, 0, 0, 0, 0, 0, 0, 0, 0, 0, 0, 0, 0, 0, 0, 0, 0, 0, 0, 0, 0], [], [], [], []⟩
def gb12St (l : List Sl) (n : Int) (d : Nat) : St := ⟨[.vsl 0 0 (l.map slE).length, .int .i64 n, .any, .any, .any, .any, .int .i64 (gpF l n l.length), .any, .int .i64 (gpT l n d), .int .i64 (((l.map slE).length : Int) - 1 - d), .any, .any, .any, .any, .any, .any, .any, .any, .any, .any, .any, .any, .any, .any, .any, .any, .any, .any, .any, .any, .any, .any, .any, .any, .any, .any, .any, .any, .any, .any, .any, .any, .any, .any, .any, .any, .any, .any, .any, .any, .any, .any, .any, .any, .any, .any, .any, .any, .any, .any], [rs12R l]⟩
def gb12M0 : Modes := ⟨[1, 1, 0, 0, 0, 0, 1, 0, 1, 1, 0, 0, 0, 0, 0, 0, 0, 0, 0, 0, 0, 0, 0, 0, 0, 0, 0, 0, 0, 0, 0, 0, 0, 0, 0, 0, 0, 0, 0, 0, 0, 0, 0, 0, 0, 0, 0, 0, 0, 0, 0, 0, 0, 0, 0, 0, 0, 0, 0, 0], [], [], [], []⟩
def gb12M' : Modes := ⟨[0, 0, 0, 0, 0, 0, 1, 0, 1, 0, 0, 0, 0, 0, 0, 0, 0, 0, 0, 0, 0, 0, 0, 0, 0, 0, 0, 0, 0, 0, 0, 0, 0, 0, 0, 0, 0, 0, 0, 0, 0, 0, 0, 0, 0, 0, 0, 0, 0, 0, 0, 0, 0, 0, 0, 0, 0, 0, 0, 0], [], [], [], []⟩
def gb12X (l : List Sl) (d : Nat) : Sl := at' l (l.length - 1 - d)
def ga12H (l : List Sl) (n : Int) : List Hint := [.linv _ 0 (ga12St l n) (fun i => i ≤ l.length) (fun i => l.length + 1 - i) ga12M0 ga12M ga12M' (fun _ => []) fun i =>
    [.fork [.dy, .cell (.bool (at' l i).ok), .fork [.dy, .cell (.int .i64 (at' l i).e.len), .fork [.nw, .nw] [.nw]] [.nw]] []],
  .nw, .linv _ 0 (gb12St l n) (fun d => d ≤ l.length) (fun d => l.length + 1 - d) gb12M0 gb12M0 gb12M' (fun _ => []) fun d =>
    [.fork [.dy, .cell (.bool (gb12X l d).ok), .fork [.dy, .cell (.int .i64 (gb12X l d).e.len), .fork [.nw] [.nw]] [.nw]] []]]

theorem sl_len (x : Sl) : partOf Try.prog 3 (slE x).cells 5 = some (.int .i64 x.e.len) := by kernel_rfl

def rkept12F : List Arg → (Res → Prop) → Prop
  | [.row r_l], R => r_l = (deS r_l).map slE ∧ (deS r_l).length ≤ 1000000 ∧ R (.v (.bool (kpS (deS r_l))))
  | _, _ => False

theorem rkept12_run (l : List Sl) (r : AV) : run [] Try.prog 37 [.vsl 0 0 (l.map slE).length] [some ⟨false, (pRefS.getD (0, 0)).1, (pRefS.getD (0, 0)).2, true, (l.map slE)⟩] (ka12H l) (yields (.v r)) =
    (let D := (4 : Nat); let C := (1 : Int); let w := (0 : Int); let s := (1 : Nat); let m := AV.int IntKind.i64; let k := (0 : Nat); let j := List.length (List.map slE l); let x := AV.vsl k k j; let u := (↑j : Int); let i := Blk.mk false (78 : TypeId) (7 : Nat) true (List.map slE l); let h := AV.any;((St.mk [x, h, h, m w, h, h, h, h, h, h, h, h, h, h, h, h, h, h, h, h, h, h, h, h, h, h, h, h, h, h, h, h, h, h, h, h, h, h, h, h, h, h, h] [some i] = ka12St l k ∧ ka12I l k) ∧ ∀ (a : Nat), let B := kb12St l a; let A := kb12I l a; let y := at' l a; let n := (↑a : Int); let E := Decidable.decide (n < u); ka12I l a → (E = true → (St.mk [x, h, h, m n, m w, h, h, h, h, h, h, h, h, h, h, h, h, h, h, h, h, h, h, h, h, h, h, h, h, h, h, h, h, h, h, h, h, h, h, h, h, h, h] [some i] = B k ∧ A k) ∧ ∀ (b : Nat), let z := at' l b; let t := Decidable.decide ((Sl.e y).5 > (Sl.e z).5); let o := (↑b : Int); let F := Decidable.decide (o < n); let q := inRange IntKind.i64 (o + C); let g := St.mk [x, h, h, m n, m (o + C), h, h, h, h, h, h, h, h, h, h, h, h, h, h, h, h, h, h, h, h, h, h, h, h, h, h, h, h, h, h, h, h, h, h, h, h, h, h] [some i]; A b → (F = true → (w ≤ n ∧ n < u) ∧ Blk.read Proofs.Try.prog i D (k + Int.toNat n) (k + k) = some (AV.bool y.1) ∧ (y.1 = true → (w ≤ o ∧ o < u) ∧ Blk.read Proofs.Try.prog i D (k + Int.toNat o) (k + k) = some (AV.bool z.1) ∧ (z.1 = true → (w ≤ n ∧ n < u) ∧ Blk.read Proofs.Try.prog i (3 : Nat) (k + Int.toNat n) (k + s + D) = some (m (Sl.e y).5) ∧ (w ≤ o ∧ o < u) ∧ Blk.read Proofs.Try.prog i (3 : Nat) (k + Int.toNat o) (k + s + D) = some (m (Sl.e z).5) ∧ (t = true → AV.bool false = r) ∧ (t = false → q ∧ ∃ (c : Nat), g = B c ∧ A c ∧ a + s - c < a + s - b)) ∧ (z.1 = false → q ∧ ∃ (d : Nat), g = B d ∧ A d ∧ a + s - d < a + s - b)) ∧ (y.1 = false → q ∧ ∃ (e : Nat), g = B e ∧ A e ∧ a + s - e < a + s - b)) ∧ (F = false → inRange IntKind.i64 (n + C) ∧ ∃ (f : Nat), St.mk [x, h, h, m (n + C), h, h, h, h, h, h, h, h, h, h, h, h, h, h, h, h, h, h, h, h, h, h, h, h, h, h, h, h, h, h, h, h, h, h, h, h, h, h, h] [some i] = ka12St l f ∧ ka12I l f ∧ List.length l + s - f < List.length l + s - a)) ∧ (E = false → AV.bool true = r))) := by kernel_rfl

theorem rkept12_ok : SpecOK Try.prog 37 (genSpec [pRefS] rkept12F) := by
  refine genSpec_ok none_ok fun l R hF => ?_
  unfold rkept12F at hF
  split at hF
  · rename_i r_l
    obtain ⟨hr_l, hl, hF⟩ := hF
    generalize deS r_l = l at hr_l hl hF
    subst hr_l
    refine ⟨_, hF, rfl, (ka12H l), ?_⟩
    show run [] Try.prog _ [.vsl 0 0 (l.map slE).length] [some ⟨false, (pRefS.getD (0, 0)).1, (pRefS.getD (0, 0)).2, true, (l.map slE)⟩] _ _
    rw [rkept12_run]; (conv => zeta)
    refine ⟨⟨rfl, Nat.zero_le _, fun j hj => absurd hj (Nat.not_lt_zero _)⟩, ?_⟩
    rintro i ⟨hi0, hI⟩
    have i0 : inRange .i64 ((i : Int) + 1) := inR (by omega) (by omega)
    refine ⟨fun hlt => ?_, fun hge => ?_⟩
    · have hi : i < l.length := by have := of_decide_eq_true hlt; rw [List.length_map] at this; omega
      have Bi : 0 ≤ (i : Int) ∧ (i : Int) < ((l.map slE).length : Int) := by rw [List.length_map]; omega
      refine ⟨⟨rfl, Nat.zero_le _, fun j hj => absurd hj (Nat.not_lt_zero _)⟩, ?_⟩
      rintro k ⟨hk0, hK⟩
      have i1 : inRange .i64 ((k : Int) + 1) := inR (by omega) (by omega)
      refine ⟨fun hlt2 => ?_, fun hge2 => ?_⟩
      · have hk : k < i := by have := of_decide_eq_true hlt2; omega
        have Bk : 0 ≤ (k : Int) ∧ (k : Int) < ((l.map slE).length : Int) := by rw [List.length_map]; omega
        have nx : brS (at' l k) (at' l i) = false → kb12I l i (k + 1) := fun h => ⟨hk, fun j hj => by
          rcases Nat.lt_or_ge j k with h1 | h1
          · exact hK j h1
          · obtain rfl : j = k := by omega
            exact h⟩
        refine ⟨Bi, read_rows Bi.1 Bi.2 (sl_ok _), fun h1 => ⟨Bk, read_rows Bk.1 Bk.2 (sl_ok _), fun h2 => ⟨Bi, read_rows Bi.1 Bi.2 (sl_len _), Bk, read_rows Bk.1 Bk.2 (sl_len _), fun h3 => ?_, fun h3 => ⟨i1, k + 1, rfl, nx ?_, by omega⟩⟩, fun h2 => ⟨i1, k + 1, rfl, nx ?_, by omega⟩⟩, fun h1 => ⟨i1, k + 1, rfl, nx ?_, by omega⟩⟩
        · have hn : ¬ KpS l := fun h => by
            have := h i hi k hk
            unfold brS at this
            rw [show (at' l i).ok = true from h1, show (at' l k).ok = true from h2, Bool.and_self, Bool.true_and] at this
            rw [show decide ((at' l i).e.len > (at' l k).e.len) = false from this] at h3
            cases h3
          rw [show kpS l = false from decide_eq_false hn]
        · unfold brS
          rw [show (at' l i).ok = true from h1, show (at' l k).ok = true from h2]
          exact h3
        · unfold brS
          rw [show (at' l k).ok = false from h2]; simp
        · unfold brS
          rw [show (at' l i).ok = false from h1]; rfl
      · have hk : k = i := by have := of_decide_eq_false hge2; omega
        subst hk
        refine ⟨i0, k + 1, rfl, ⟨hi, fun j hj m hm => ?_⟩, by omega⟩
        rcases Nat.lt_or_ge j k with h1 | h1
        · exact hI j h1 m hm
        · obtain rfl : j = k := by omega
          exact hK m hm
    · have hi : i = l.length := by have := of_decide_eq_false hge; rw [List.length_map] at this; omega
      subst hi
      rw [kpS_iff.2 hI]
  · exact hF.elim


def rgap12F : List Arg → (Res → Prop) → Prop
  | [.row r_l, .v (.int .i64 n)], R => r_l = (deS r_l).map slE ∧ (deS r_l).length ≤ 1000000 ∧ R (.v (.tuple [.int .i64 (gfS (deS r_l) n), .int .i64 (gtS (deS r_l) n)]))
  | _, _ => False

theorem rgap12_run (l : List Sl) (n : Int) (r : AV) : run [] Try.prog 51 [.vsl 0 0 (l.map slE).length, .int .i64 n] [some ⟨false, (pRefS.getD (0, 0)).1, (pRefS.getD (0, 0)).2, true, (l.map slE)⟩] (ga12H l n) (yields (.v r)) =
    (let Q := (4 : Nat); let P := gb12St l n; let O := ga12St l n; let C := (0 : Int); let A := (1 : Nat); let x := inRange IntKind.i64; let w := (0 : Nat); let t := (1 : Int); let s := List.length l; let m := AV.int IntKind.i64; let F := m (↑(gpF l n (s)) : Int); let k := Blk.mk false (78 : TypeId) (7 : Nat) true (List.map slE l); let K := [some k]; let j := List.length (List.map slE l); let D := AV.vsl w w j; let u := (↑j : Int); let i := AV.any;((St.mk [D, m n, i, i, i, i, m C, m C, i, i, i, i, i, i, i, i, i, i, i, i, i, i, i, i, i, i, i, i, i, i, i, i, i, i, i, i, i, i, i, i, i, i, i, i, i, i, i, i, i, i, i, i, i, i, i, i, i, i, i, i] K = O w ∧ Nat.le w (s)) ∧ ∀ (a : Nat), let L := at' l a; let G := Decidable.decide ((Sl.e L).5 > n); let y := (↑a : Int); let R := Decidable.decide (y < u); let H := y + t; let q := St.mk [D, m n, i, i, i, i, m (↑(gpF l n a) : Int), m H, i, i, i, i, i, i, i, i, i, i, i, i, i, i, i, i, i, i, i, i, i, i, i, i, i, i, i, i, i, i, i, i, i, i, i, i, i, i, i, i, i, i, i, i, i, i, i, i, i, i, i, i] K; Nat.le a (s) → (R = true → (C ≤ y ∧ y < u) ∧ Blk.read Proofs.Try.prog k Q (w + Int.toNat y) (w + w) = some (AV.bool L.1) ∧ (L.1 = true → (C ≤ y ∧ y < u) ∧ Blk.read Proofs.Try.prog k (3 : Nat) (w + Int.toNat y) (w + A + Q) = some (m (Sl.e L).5) ∧ (G = true → x H ∧ x H ∧ ∃ (b : Nat), St.mk [D, m n, i, i, i, i, m H, m H, i, i, i, i, i, i, i, i, i, i, i, i, i, i, i, i, i, i, i, i, i, i, i, i, i, i, i, i, i, i, i, i, i, i, i, i, i, i, i, i, i, i, i, i, i, i, i, i, i, i, i, i] K = O b ∧ Nat.le b (s) ∧ s + A - b < s + A - a) ∧ (G = false → x H ∧ ∃ (c : Nat), q = O c ∧ Nat.le c (s) ∧ s + A - c < s + A - a)) ∧ (L.1 = false → x H ∧ ∃ (d : Nat), q = O d ∧ Nat.le d (s) ∧ s + A - d < s + A - a)) ∧ (R = false → x (u - t) ∧ (St.mk [D, m n, i, i, i, i, m (↑(gpF l n a) : Int), i, m u, m (u - t), i, i, i, i, i, i, i, i, i, i, i, i, i, i, i, i, i, i, i, i, i, i, i, i, i, i, i, i, i, i, i, i, i, i, i, i, i, i, i, i, i, i, i, i, i, i, i, i, i, i] K = P w ∧ Nat.le w (s)) ∧ ∀ (e : Nat), let E := gb12X l e; let J := Decidable.decide ((Sl.e E).5 < n); let z := (↑e : Int); let N := w + Int.toNat (u - t - z); let M := Decidable.decide (u - t - z ≥ C); let I := C ≤ u - t - z ∧ u - t - z < u; let B := u - t - z - t; let o := St.mk [D, m n, i, i, i, i, F, i, m (↑(gpT l n e) : Int), m B, i, i, i, i, i, i, i, i, i, i, i, i, i, i, i, i, i, i, i, i, i, i, i, i, i, i, i, i, i, i, i, i, i, i, i, i, i, i, i, i, i, i, i, i, i, i, i, i, i, i] K; Nat.le e (s) → (M = true → I ∧ Blk.read Proofs.Try.prog k Q N (w + w) = some (AV.bool E.1) ∧ (E.1 = true → I ∧ Blk.read Proofs.Try.prog k (3 : Nat) N (w + A + Q) = some (m (Sl.e E).5) ∧ (J = true → x B ∧ ∃ (f : Nat), St.mk [D, m n, i, i, i, i, F, i, m (u - t - z), m B, i, i, i, i, i, i, i, i, i, i, i, i, i, i, i, i, i, i, i, i, i, i, i, i, i, i, i, i, i, i, i, i, i, i, i, i, i, i, i, i, i, i, i, i, i, i, i, i, i, i] K = P f ∧ Nat.le f (s) ∧ s + A - f < s + A - e) ∧ (J = false → x B ∧ ∃ (g : Nat), o = P g ∧ Nat.le g (s) ∧ s + A - g < s + A - e)) ∧ (E.1 = false → x B ∧ ∃ (h : Nat), o = P h ∧ Nat.le h (s) ∧ s + A - h < s + A - e)) ∧ (M = false → AV.tuple [F, m (↑(gpT l n e) : Int)] = r)))) := by kernel_rfl

theorem rgap12_ok : SpecOK Try.prog 51 (genSpec [pRefS, none] rgap12F) := by
  refine genSpec_ok none_ok fun l R hF => ?_
  unfold rgap12F at hF
  split at hF
  · rename_i r_l n
    obtain ⟨hr_l, hl, hF⟩ := hF
    generalize deS r_l = l at hr_l hl hF
    subst hr_l
    refine ⟨_, hF, rfl, (ga12H l n), ?_⟩
    show run [] Try.prog _ [.vsl 0 0 (l.map slE).length, .int .i64 n] [some ⟨false, (pRefS.getD (0, 0)).1, (pRefS.getD (0, 0)).2, true, (l.map slE)⟩] _ _
    rw [rgap12_run]; (conv => zeta)
    have hlm : (l.map slE).length = l.length := List.length_map _
    refine ⟨⟨rfl, Nat.zero_le _⟩, ?_⟩
    intro i (hi0 : i ≤ l.length)
    have i0 : inRange .i64 ((i : Int) + 1) := inR (by omega) (by omega)
    refine ⟨fun hlt => ?_, fun hge => ?_⟩
    · have hi : i < l.length := by have := of_decide_eq_true hlt; omega
      have Bi : 0 ≤ (i : Int) ∧ (i : Int) < ((l.map slE).length : Int) := by omega
      have g1 : gpF l n (i + 1) = if loS n (at' l i) then i + 1 else gpF l n i := rfl
      refine ⟨Bi, read_rows Bi.1 Bi.2 (sl_ok _), fun h1 => ⟨Bi, read_rows Bi.1 Bi.2 (sl_len _), fun h2 => ?_, fun h2 => ?_⟩, fun h1 => ?_⟩
      · have h : loS n (at' l i) = true := by
          unfold loS
          rw [show (at' l i).ok = true from h1]
          exact h2
        rw [h, if_pos rfl] at g1
        exact ⟨i0, i0, i + 1, by unfold ga12St; rw [g1]; rfl, hi, by omega⟩
      · have h : loS n (at' l i) = false := by
          unfold loS
          rw [show (at' l i).ok = true from h1]
          exact h2
        rw [h, if_neg (by simp)] at g1
        exact ⟨i0, i + 1, by unfold ga12St; rw [g1]; rfl, hi, by omega⟩
      · have h : loS n (at' l i) = false := by
          unfold loS
          rw [show (at' l i).ok = false from h1]; rfl
        rw [h, if_neg (by simp)] at g1
        exact ⟨i0, i + 1, by unfold ga12St; rw [g1]; rfl, hi, by omega⟩
    · have hi : i = l.length := by have := of_decide_eq_false hge; omega
      subst hi
      refine ⟨inR (by omega) (by omega), ⟨by unfold gb12St gpT; simp only [hlm, Int.natCast_zero, Int.sub_zero]; rfl, Nat.zero_le _⟩, ?_⟩
      intro d (hd0 : d ≤ l.length)
      refine ⟨fun hlt => ?_, fun hge => ?_⟩
      · have hd : d < l.length := by have := of_decide_eq_true hlt; omega
        have Bd : 0 ≤ ((l.map slE).length : Int) - 1 - d ∧ ((l.map slE).length : Int) - 1 - d < ((l.map slE).length : Int) := by omega
        have ed : (((l.map slE).length : Int) - 1 - d).toNat = l.length - 1 - d := by omega
        have en : ((l.map slE).length : Int) - 1 - ((d + 1 : Nat) : Int) = ((l.map slE).length : Int) - 1 - d - 1 := by omega
        have ei : ((l.length - 1 - d : Nat) : Int) = ((l.map slE).length : Int) - 1 - d := by omega
        have g1 : gpT l n (d + 1) = if shS n (gb12X l d) then l.length - 1 - d else gpT l n d := rfl
        have i2 : inRange .i64 (((l.map slE).length : Int) - 1 - d - 1) := inR (by omega) (by omega)
        refine ⟨Bd, read_rows Bd.1 Bd.2 (by rw [ed]; exact sl_ok _), fun h1 => ⟨Bd, read_rows Bd.1 Bd.2 (by rw [ed]; exact sl_len _), fun h2 => ?_, fun h2 => ?_⟩, fun h1 => ?_⟩
        · have h : shS n (gb12X l d) = true := by
            unfold shS
            rw [show (gb12X l d).ok = true from h1]
            exact h2
          rw [h, if_pos rfl] at g1
          exact ⟨i2, d + 1, by unfold gb12St; rw [g1, en, ei]; rfl, hd, by omega⟩
        · have h : shS n (gb12X l d) = false := by
            unfold shS
            rw [show (gb12X l d).ok = true from h1]
            exact h2
          rw [h, if_neg (by simp)] at g1
          exact ⟨i2, d + 1, by unfold gb12St; rw [g1, en]; rfl, hd, by omega⟩
        · have h : shS n (gb12X l d) = false := by
            unfold shS
            rw [show (gb12X l d).ok = false from h1]; rfl
          rw [h, if_neg (by simp)] at g1
          exact ⟨i2, d + 1, by unfold gb12St; rw [g1, en]; rfl, hd, by omega⟩
      · have hd : d = l.length := by have := of_decide_eq_false hge; omega
        subst hd
        rfl
  · exact hF.elim


end Go.Proofs.Ytcabofadpheomaa.L1
end

section
/-
  Layer 12: the document's below, above, Insert.
-/
namespace Go.Proofs.Ytcabofadpheomaa.L1
open Go.Sx Go.Sx.M

def ex12R (x : En) : Option Blk := some ⟨true, 45, 6, true, [enE x]⟩
def ww12R (w : List Wr) : List AV := List.map wrE w
def wo12R (w : List Wr) : Option Blk := some ⟨true, 85, 8, true, ww12R w⟩

def bw12St (l : List Sl) (t : Int) (x : En) (q : List Wr × Nat) : St := ⟨[.vsl 0 0 (l.map slE).length, .any, .int .i64 t, .any, .any, .any, .any, .ptr 1 0 0 true, .any, .vsl 2 0 q.1.length, .int .i64 q.2, .any, .any, .any, .any, .any, .any, .any, .any, .any, .any, .any, .any, .any, .any, .any, .any, .any, .any, .any, .any, .any, .any, .any, .any, .any, .any, .any, .any, .any, .any, .any, .any, .any, .any, .any, .any, .any, .any, .any, .any, .any, .any, .any, .any, .any, .any, .any], [rs12R l, ex12R x, wo12R q.1]⟩
def bw12M0 : Modes := ⟨[1, 0, 1, 0, 0, 0, 0, 1, 0, 1, 1, 0, 0, 0, 0, 0, 0, 0, 0, 0, 0, 0, 0, 0, 0, 0, 0, 0, 0, 0, 0, 0, 0, 0, 0, 0, 0, 0, 0, 0, 0, 0, 0, 0, 0, 0, 0, 0, 0, 0, 0, 0, 0, 0, 0, 0, 0, 0], [], [], [], [(9, 85, 8)]⟩
def bw12M : Modes := ⟨[1, 0, 1, 0, 0, 0, 0, 1, 0, 1, 1, 0, 0, 0, 0, 0, 0, 0, 0, 0, 0, 0, 0, 0, 0, 0, 0, 0, 0, 0, 0, 0, 0, 0, 0, 0, 0, 0, 0, 0, 0, 0, 0, 0, 0, 0, 0, 0, 0, 0, 0, 0, 0, 0, 0, 0, 0, 0], [], [], [], []⟩
def bw12M' : Modes := ⟨[0, 0, 0, 0, 0, 0, 0, 1, 0, 1, 1, 0, 0, 0, 0, 0, 0, 0, 0, 0, 0, 0, 0, 0, 0, 0, 0, 0, 0, 0, 0, 0, 0, 0, 0, 0, 0, 0, 0, 0, 0, 0, 0, 0, 0, 0, 0, 0, 0, 0, 0, 0, 0, 0, 0, 0, 0, 0], [], [], [], []⟩
def bx12M : Modes := ⟨[1, 0, 1, 0, 0, 0, 0, 1, 0, 1, 1, 1, 1, 0, 0, 0, 0, 0, 0, 0, 0, 0, 0, 0, 0, 0, 0, 0, 0, 0, 0, 0, 0, 0, 0, 0, 0, 0, 0, 0, 0, 0, 0, 0, 0, 0, 0, 0, 0, 0, 0, 0, 0, 0, 0, 0, 0, 0], [], [], [], []⟩
def bx12M' : Modes := ⟨[1, 0, 1, 0, 0, 0, 0, 1, 0, 1, 1, 1, 0, 0, 0, 0, 0, 0, 0, 0, 0, 0, 0, 0, 0, 0, 0, 0, 0, 0, 0, 0, 0, 0, 0, 0, 0, 0, 0, 0, 0, 0, 0, 0, 0, 0, 0, 0, 0, 0, 0, 0, 0, 0, 0, 0, 0, 0], [], [], [], []⟩

def bw12I (l : List Sl) (t : Int) (x : En) (e : Int) (q : List Wr × Nat) : Prop := q.2 < l.length ∧ q.1 ++ belS l t.toNat x q.2 = belS l t.toNat x e.toNat
def bw12F (l : List Sl) (t : Int) (p : Nat) : Nat := blN l p (p - t.toNat)
def bx12St (l : List Sl) (t : Int) (x : En) (q : List Wr × Nat) (d : Nat) : St := ⟨[.vsl 0 0 (l.map slE).length, .any, .int .i64 t, .any, .any, .any, .any, .ptr 1 0 0 true, .any, .vsl 2 0 q.1.length, .int .i64 q.2, .int .i64 (blN l q.2 d), .int .i64 ((q.2 : Int) - 1 - d), .any, .any, .any, .any, .any, .any, .any, .any, .any, .any, .any, .any, .any, .any, .any, .any, .any, .any, .any, .any, .any, .any, .any, .any, .any, .any, .any, .any, .any, .any, .any, .any, .any, .any, .any, .any, .any, .any, .any, .any, .any, .any, .any, .any, .any], [rs12R l, ex12R x, wo12R q.1]⟩
def bw12H (l : List Sl) (t : Int) (x : En) (e : Int) : List Hint := [.linv _ ([], e.toNat) (bw12St l t x) (bw12I l t x e) (fun q => q.2) bw12M0 bw12M bw12M' (fun _ => [.rows (ww12R (belS l t.toNat x e.toNat))]) fun q =>
  [.fork [.nw, .nw, .linv _ 0 (bx12St l t x q) (fun d => d ≤ q.2 - t.toNat) (fun d => q.2 + 1 - d) bx12M bx12M bx12M' (fun _ => [.dy, .cell (slE (at' l (bw12F l t q.2))), .rows (ww12R (q.1 ++ [⟨q.2, at' l (bw12F l t q.2)⟩]))]) fun d =>
    [.fork [.dy, .cell (.int .i64 (at' l (q.2 - 1 - d)).e.len), .nw, .dy, .cell (.int .i64 (at' l (q.2 - 1)).e.len), .fork [.nw] [.nw]] []]] []]]

def av12I (l : List Sl) (t : Int) (x : En) (e : Int) (q : List Wr × Nat) : Prop := q.2 < l.length ∧ q.1 ++ aboS l t.toNat x q.2 = aboS l t.toNat x e.toNat
def av12F (l : List Sl) (t : Int) (p : Nat) : Nat := abN l p (t.toNat - p)
def ax12St (l : List Sl) (t : Int) (x : En) (q : List Wr × Nat) (d : Nat) : St := ⟨[.vsl 0 0 (l.map slE).length, .any, .int .i64 t, .any, .any, .any, .any, .ptr 1 0 0 true, .any, .vsl 2 0 q.1.length, .int .i64 q.2, .int .i64 (abN l q.2 d), .int .i64 ((q.2 : Int) + 1 + d), .any, .any, .any, .any, .any, .any, .any, .any, .any, .any, .any, .any, .any, .any, .any, .any, .any, .any, .any, .any, .any, .any, .any, .any, .any, .any, .any, .any, .any, .any, .any, .any, .any, .any, .any, .any, .any, .any, .any, .any, .any, .any, .any, .any, .any], [rs12R l, ex12R x, wo12R q.1]⟩
def av12H (l : List Sl) (t : Int) (x : En) (e : Int) : List Hint := [.linv _ ([], e.toNat) (bw12St l t x) (av12I l t x e) (fun q => l.length - q.2) bw12M0 bw12M bw12M' (fun _ => [.rows (ww12R (aboS l t.toNat x e.toNat))]) fun q =>
  [.fork [.nw, .nw, .linv _ 0 (ax12St l t x q) (fun d => d ≤ t.toNat - q.2) (fun d => l.length + 1 - d) bx12M bx12M bx12M' (fun _ => [.dy, .cell (slE (at' l (av12F l t q.2))), .rows (ww12R (q.1 ++ [⟨q.2, at' l (av12F l t q.2)⟩]))]) fun d =>
    [.fork [.dy, .cell (.int .i64 (at' l (q.2 + 1 + d)).e.len), .nw, .dy, .cell (.int .i64 (at' l (q.2 + 1)).e.len), .fork [.nw] [.nw]] []]] []]]

/-- Insert's loop. -/
def rn12I (l : List Sl) (n : Int) (i : Nat) : Prop := i ≤ l.length ∧ ∀ j, j < i → gfS l n ≤ j → j < gtS l n → (at' l j).ok = true
def rn12St (l : List Sl) (x : En) (i : Nat) : St := ⟨[.vsl 0 0 (l.map slE).length, .any, .any, .ptr 1 0 0 true, .any, .any, .int .i64 (gfS l x.len), .int .i64 (gtS l x.len), .int .i64 (dnN l x.len i), .int .i64 (upN l x.len i), .int .i64 i, .any, .any, .any, .any, .any, .any, .any, .any, .any, .any, .any, .any, .any, .any, .any, .any, .any, .any, .any, .any, .any, .any, .any, .any, .any, .any, .any, .any, .any, .any, .any, .any, .any, .any, .any, .any, .any, .any, .any, .any, .any, .any, .any, .any, .any, .any, .any, .any, .any, .any, .any, .any, .any, .any, .any, .any, .any, .any, .any, .any, .any, .any, .any, .any, .any, .any, .any, .any, .any, .any, .any, .any, .any, .any, .any, .any, .any, .any, .any, .any, .any, .any, .any, .any, .any, .any, .any, .any, .any, .any], [rs12R l, ex12R x]⟩
def rn12M0 : Modes := ⟨[1, 0, 0, 1, 0, 0, 1, 1, 2, 2, 2, 0, 0, 0, 0, 0, 0, 0, 0, 0, 0, 0, 0, 0, 0, 0, 0, 0, 0, 0, 0, 0, 0, 0, 0, 0, 0, 0, 0, 0, 0, 0, 0, 0, 0, 0, 0, 0, 0, 0, 0, 0, 0, 0, 0, 0, 0, 0, 0, 0, 0, 0, 0, 0, 0, 0, 0, 0, 0, 0, 0, 0, 0, 0, 0, 0, 0, 0, 0, 0, 0, 0, 0, 0, 0, 0, 0, 0, 0, 0, 0, 0, 0, 0, 0, 0, 0, 0, 0, 0, 0], [], [], [], []⟩
def rn12M : Modes := ⟨[1, 0, 0, 1, 0, 0, 1, 1, 1, 1, 1, 0, 0, 0, 0, 0, 0, 0, 0, 0, 0, 0, 0, 0, 0, 0, 0, 0, 0, 0, 0, 0, 0, 0, 0, 0, 0, 0, 0, 0, 0, 0, 0, 0, 0, 0, 0, 0, 0, 0, 0, 0, 0, 0, 0, 0, 0, 0, 0, 0, 0, 0, 0, 0, 0, 0, 0, 0, 0, 0, 0, 0, 0, 0, 0, 0, 0, 0, 0, 0, 0, 0, 0, 0, 0, 0, 0, 0, 0, 0, 0, 0, 0, 0, 0, 0, 0, 0, 0, 0, 0], [], [], [], []⟩
def rn12M' : Modes := ⟨[1, 0, 0, 1, 1, 2, 1, 1, 1, 1, 0, 0, 0, 0, 0, 0, 0, 0, 0, 0, 0, 0, 0, 0, 0, 0, 0, 0, 0, 0, 0, 0, 0, 0, 0, 0, 0, 0, 0, 0, 0, 0, 0, 0, 0, 0, 0, 0, 0, 0, 0, 0, 0, 0, 0, 0, 0, 0, 0, 0, 0, 0, 0, 0, 0, 0, 0, 0, 0, 0, 0, 0, 0, 0, 0, 0, 0, 0, 0, 0, 0, 0, 0, 0, 0, 0, 0, 0, 0, 0, 0, 0, 0, 0, 0, 0, 0, 0, 0, 0, 0], [], [], [], []⟩
def rn12X : List Hint := [.fork [.fork [.fork [.nw] [.nw]] [.fork [.nw] [.nw]]] [.fork [.nw] [.nw]]]
def rn12H (l : List Sl) (x : En) : List Hint := [.fork [] [.fork [] [.linv _ 0 (rn12St l x) (rn12I l x.len) (fun i => l.length + 1 - i) rn12M0 rn12M rn12M' (fun _ => [.fork [.fork [] [.br true, .nw]] [.br false, .fork [.nw, .fork [.nw] []] []]]) fun i =>
  [.fork [.dy, .cell (.bool (at' l i).ok), .fork [.nw] [.fork [.fork [] rn12X] rn12X]] []]]]]

def rbelow12F : List Arg → (Res → Prop) → Prop
  | [.row r_l, .v (.int .i64 e), .v (.int .i64 t), .v (.agg [.w64 v, .w64 w, .w64 m, .w64 n, .int .i64 k, .int .i64 j])], R => r_l = (deS r_l).map slE ∧ (deS r_l).length ≤ 1000000 ∧ (0 ≤ e ∧ e < (deS r_l).length ∧ 0 ≤ t) ∧ R (.vrow 85 8 ((belS (deS r_l) t.toNat ⟨v, w, m, n, k, j⟩ e.toNat).map wrE))
  | _, _ => False

def rabove12F : List Arg → (Res → Prop) → Prop
  | [.row r_l, .v (.int .i64 e), .v (.int .i64 t), .v (.agg [.w64 v, .w64 w, .w64 m, .w64 n, .int .i64 k, .int .i64 j])], R => r_l = (deS r_l).map slE ∧ (deS r_l).length ≤ 1000000 ∧ (0 ≤ e ∧ e < (deS r_l).length ∧ 0 ≤ t ∧ t < (deS r_l).length) ∧ R (.vrow 85 8 ((aboS (deS r_l) t.toNat ⟨v, w, m, n, k, j⟩ e.toNat).map wrE))
  | _, _ => False

theorem rbelow12_run (l : List Sl) (e t : Int) (v w m n : BitVec 64) (k j : Int) (es : List AV) : run [] Try.prog 53 [.vsl 0 0 (l.map slE).length, .int .i64 e, .int .i64 t, .agg [.w64 v, .w64 w, .w64 m, .w64 n, .int .i64 k, .int .i64 j]] [some ⟨false, (pRefS.getD (0, 0)).1, (pRefS.getD (0, 0)).2, true, (l.map slE)⟩] (bw12H l t ⟨v, w, m, n, k, j⟩ e) (yields (.vrow 85 8 es)) =
    (let N := Blk.mk true; let K := inRange IntKind.i64; let H := N (85 : TypeId) (8 : Nat) true; let G := AV.w64; let B := (1 : Int); let A := En.mk v w m n k j; let ad := bw12I l t A e; let T := ww12R (belS l (Int.toNat t) A (Int.toNat e)); let x := List.length (List.map slE l); let u := (1 : Nat); let r := (0 : Nat); let V := AV.vsl r r x; let O := AV.vsl (r + u + u) r; let D := AV.ptr (r + u) r r true; let q := Blk.mk false (78 : TypeId) (7 : Nat) true (List.map slE l); let h := AV.int IntKind.i64; let y := [AV.agg [G v, G w, G m, G n, h k, h j]]; let X := N (45 : TypeId) (6 : Nat) true y; let S := [some q, some (N (45 : Nat) (6 : Nat) true y)]; let g := AV.any;((St.mk [V, g, h t, g, g, g, g, D, g, AV.vsl (List.length S) r r, h e, g, g, g, g, g, g, g, g, g, g, g, g, g, g, g, g, g, g, g, g, g, g, g, g, g, g, g, g, g, g, g, g, g, g, g, g, g, g, g, g, g, g, g, g, g, g, g] (S ++ [some (H [])]) = bw12St l t A ([], Int.toNat e) ∧ ad ([], Int.toNat e)) ∧ ∀ (a : List Wr × Nat), let ac := bx12St l t A a; let Z := Sl.e (at' l (Prod.snd a - u)); let P := a.2 - Int.toNat t; let L := at' l (bw12F l t (Prod.snd a)); let F := List.map wrE (Prod.fst a); let z := List.length a.1; let Y := z + u ≤ (9223372036854775807 : Nat); let R := (z + u) * (64 : Nat) ≤ (140737488355328 : Nat); let s := (↑a.2 : Int); let ae := Decidable.decide (s > t); let ab := s - B; let Q := ww12R (a.1 ++ [Wr.mk s (at' l (bw12F l t a.2))]); let M := [AV.agg [h s, AV.bool true, G v, G w, G m, G n, h k, h j]]; let o := [some q, some X, some (H (ww12R a.1))]; let i := Sl.e L; let C := [AV.agg [h s, AV.bool L.1, G i.1, G i.2, G i.3, G i.4, h i.5, h i.6]]; ad a → (ae = true → K ab ∧ K ab ∧ (St.mk [V, g, h t, g, g, g, g, D, g, O (z), h s, h ab, h ab, g, g, g, g, g, g, g, g, g, g, g, g, g, g, g, g, g, g, g, g, g, g, g, g, g, g, g, g, g, g, g, g, g, g, g, g, g, g, g, g, g, g, g, g, g] o = ac r ∧ Nat.le r P) ∧ ∀ (b : Nat), let W := Sl.e (at' l (Prod.snd a - u - b)); let J := (↑b : Int); let aa := Decidable.decide (s - B - J ≥ t); let U := s - B - J - B; let I := W.5 == Z.5; let E := (↑(blN l a.2 b) : Int); Nat.le b P → (aa = true → ((0 : Int) ≤ s - B - J ∧ s - B - J < (↑x : Int)) ∧ Blk.read Proofs.Try.prog q (3 : Nat) (r + Int.toNat (s - B - J)) (r + u + (4 : Nat)) = some (h W.5) ∧ K ab ∧ ((0 : Int) ≤ s - B ∧ s - B < (↑x : Int)) ∧ Blk.read Proofs.Try.prog q (3 : Nat) (r + Int.toNat ab) (r + u + (4 : Nat)) = some (h Z.5) ∧ (I = true → K U ∧ ∃ (c : Nat), St.mk [V, g, h t, g, g, g, g, D, g, O (z), h s, h (s - B - J), h U, g, g, g, g, g, g, g, g, g, g, g, g, g, g, g, g, g, g, g, g, g, g, g, g, g, g, g, g, g, g, g, g, g, g, g, g, g, g, g, g, g, g, g, g, g] o = ac c ∧ Nat.le c P ∧ a.2 + u - c < a.2 + u - b) ∧ (I = false → K U ∧ ∃ (d : Nat), St.mk [V, g, h t, g, g, g, g, D, g, O (z), h s, h E, h U, g, g, g, g, g, g, g, g, g, g, g, g, g, g, g, g, g, g, g, g, g, g, g, g, g, g, g, g, g, g, g, g, g, g, g, g, g, g, g, g, g, g, g, g, g] o = ac d ∧ Nat.le d P ∧ a.2 + u - d < a.2 + u - b)) ∧ (aa = false → ((0 : Int) ≤ E ∧ E < (↑x : Int)) ∧ Blk.read Proofs.Try.prog q (78 : Nat) (r + Int.toNat E) r = some (AV.agg [AV.bool L.1, G i.1, G i.2, G i.3, G i.4, h i.5, h i.6]) ∧ (R ∧ Y ∧ r + u ≤ List.length C ∧ z ≤ List.length F) ∧ List.take (z) F ++ C = Q ∧ ∃ (f : List Wr × Nat), St.mk [V, g, h t, g, g, g, g, D, g, O (z + u), h E, g, g, g, g, g, g, g, g, g, g, g, g, g, g, g, g, g, g, g, g, g, g, g, g, g, g, g, g, g, g, g, g, g, g, g, g, g, g, g, g, g, g, g, g, g, g, g] [some q, some X, some (N (85 : Nat) (8 : Nat) true (Q))] = bw12St l t A f ∧ ad f ∧ f.2 < a.2)) ∧ (ae = false → (R ∧ Y ∧ r + u ≤ List.length M ∧ z ≤ List.length F) ∧ List.take (z) F ++ M = T ∧ z + u = List.length es ∧ some (N (85 : Nat) (8 : Nat) true (T)) = some (H es)))) := by kernel_rfl

theorem rbelow12_ok : SpecOK Try.prog 53 (genSpec [pRefS, none, none, none] rbelow12F) := by
  refine genSpec_ok none_ok fun l R hF => ?_
  unfold rbelow12F at hF
  split at hF
  · rename_i r_l e t v w m n k j
    obtain ⟨hr_l, hl, hF⟩ := hF
    generalize deS r_l = l at hr_l hl hF
    subst hr_l
    obtain ⟨he, hF⟩ := hF
    refine ⟨_, hF, trivial, (bw12H l t ⟨v, w, m, n, k, j⟩ e), ?_⟩
    show run [] Try.prog _ [.vsl 0 0 (l.map slE).length, .int .i64 e, .int .i64 t, .agg [.w64 v, .w64 w, .w64 m, .w64 n, .int .i64 k, .int .i64 j]] [some ⟨false, (pRefS.getD (0, 0)).1, (pRefS.getD (0, 0)).2, true, (l.map slE)⟩] _ _
    rw [rbelow12_run]; (conv => zeta)
    generalize hx : (⟨v, w, m, n, k, j⟩ : En) = x
    obtain ⟨he0, he1, ht0⟩ := he
    have hlm : (l.map slE).length = l.length := List.length_map _
    have lW : ∀ L : List Wr, (List.map wrE L).length = L.length := fun L => List.length_map _
    have hbl := belS_len l t.toNat x e.toNat
    refine ⟨⟨by unfold bw12St; rw [Int.toNat_of_nonneg he0, ← hx]; rfl, by show e.toNat < l.length; omega, List.nil_append _⟩, ?_⟩
    rintro ⟨o, p⟩ ⟨hp, hI⟩
    dsimp only at hp hI ⊢
    have ho : o.length ≤ 1000000 := by
      have := congrArg List.length hI
      rw [List.length_append] at this
      omega
    refine ⟨fun hlt => ?_, fun hge => ?_⟩
    · have htp : t.toNat < p := by have := of_decide_eq_true hlt; omega
      have e1 : ((p - 1 : Nat) : Int) = (p : Int) - 1 := by omega
      refine ⟨inR (by omega) (by omega), inR (by omega) (by omega), ⟨by unfold bx12St blN; simp only [e1, Int.natCast_zero, Int.sub_zero, ← hx]; rfl, Nat.zero_le _⟩, ?_⟩
      intro d (hd0 : d ≤ p - t.toNat)
      refine ⟨fun hlt2 => ?_, fun hge2 => ?_⟩
      · have hd : d < p - t.toNat := by have := of_decide_eq_true hlt2; omega
        have B1 : 0 ≤ (p : Int) - 1 - d ∧ (p : Int) - 1 - d < ((l.map slE).length : Int) := by omega
        have B2 : 0 ≤ (p : Int) - 1 ∧ (p : Int) - 1 < ((l.map slE).length : Int) := by omega
        have ed : ((p : Int) - 1 - d).toNat = p - 1 - d := by omega
        have ep : ((p : Int) - 1).toNat = p - 1 := by omega
        have en : (p : Int) - 1 - ((d + 1 : Nat) : Int) = (p : Int) - 1 - d - 1 := by omega
        have ei : ((p - 1 - d : Nat) : Int) = (p : Int) - 1 - d := by omega
        have i2 : inRange .i64 ((p : Int) - 1 - d - 1) := inR (by omega) (by omega)
        have g1 : blN l p (d + 1) = if (at' l (p - 1 - d)).e.len = (at' l (p - 1)).e.len then p - 1 - d else blN l p d := rfl
        refine ⟨B1, read_rows B1.1 B1.2 (by rw [ed]; exact sl_len _), inR (by omega) (by omega), B2, read_rows B2.1 B2.2 (by rw [ep]; exact sl_len _), fun h => ?_, fun h => ?_⟩
        · rw [if_pos (by simpa using h)] at g1
          exact ⟨i2, d + 1, by unfold bx12St; dsimp only; rw [g1, en, ei, ← hx]; rfl, hd, by omega⟩
        · rw [if_neg (by simpa using h)] at g1
          exact ⟨i2, d + 1, by unfold bx12St; dsimp only; rw [g1, en, ← hx]; rfl, hd, by omega⟩
      · have hd : d = p - t.toNat := by have := of_decide_eq_false hge2; omega
        subst hd
        have hF := blN_lt l (show 0 < p from by omega) (p - t.toNat)
        have B : 0 ≤ ((blN l p (p - t.toNat) : Nat) : Int) ∧ ((blN l p (p - t.toNat) : Nat) : Int) < ((l.map slE).length : Int) := by omega
        refine ⟨B, read_rows B.1 B.2 (by rw [Int.toNat_natCast]; exact rsl_whole _), ⟨by omega, by omega, Nat.le_refl _, by rw [lW]; exact Nat.le_refl _⟩, ?_, (o ++ [⟨p, at' l (blN l p (p - t.toNat))⟩], blN l p (p - t.toNat)), ?_, ⟨by show blN l p (p - t.toNat) < l.length; omega, ?_⟩, hF⟩
        · rw [List.take_of_length_le (by rw [lW]; exact Nat.le_refl _)]
          show _ = List.map wrE _
          rw [List.map_append]; rfl
        · unfold bw12St
          rw [List.length_append, ← hx]; rfl
        · show (o ++ [_]) ++ belS l t.toNat x _ = _
          rw [← hI, belS_step htp, List.append_assoc]; rfl
    · have htp : ¬ t.toNat < p := by have := of_decide_eq_false hge; omega
      rw [belS_end htp] at hI
      refine ⟨⟨by omega, by omega, Nat.le_refl _, by rw [lW]; exact Nat.le_refl _⟩, ?_, ?_, rfl⟩
      · rw [List.take_of_length_le (by rw [lW]; exact Nat.le_refl _), ← hI]
        show _ = List.map wrE _
        rw [List.map_append, ← hx]; rfl
      · rw [lW, ← hI, List.length_append]; rfl
  · exact hF.elim


theorem rabove12_run (l : List Sl) (e t : Int) (v w m n : BitVec 64) (k j : Int) (es : List AV) : run [] Try.prog 52 [.vsl 0 0 (l.map slE).length, .int .i64 e, .int .i64 t, .agg [.w64 v, .w64 w, .w64 m, .w64 n, .int .i64 k, .int .i64 j]] [some ⟨false, (pRefS.getD (0, 0)).1, (pRefS.getD (0, 0)).2, true, (l.map slE)⟩] (av12H l t ⟨v, w, m, n, k, j⟩ e) (yields (.vrow 85 8 es)) =
    (let O := Blk.mk true; let N := List.length l; let K := inRange IntKind.i64; let H := O (85 : TypeId) (8 : Nat) true; let G := AV.w64; let B := (1 : Int); let A := En.mk v w m n k j; let ae := av12I l t A e; let U := ww12R (aboS l (Int.toNat t) A (Int.toNat e)); let x := List.length (List.map slE l); let u := (1 : Nat); let r := (0 : Nat); let W := AV.vsl r r x; let P := AV.vsl (r + u + u) r; let D := AV.ptr (r + u) r r true; let q := Blk.mk false (78 : TypeId) (7 : Nat) true (List.map slE l); let h := AV.int IntKind.i64; let y := [AV.agg [G v, G w, G m, G n, h k, h j]]; let Y := O (45 : TypeId) (6 : Nat) true y; let T := [some q, some (O (45 : Nat) (6 : Nat) true y)]; let g := AV.any;((St.mk [W, g, h t, g, g, g, g, D, g, AV.vsl (List.length T) r r, h e, g, g, g, g, g, g, g, g, g, g, g, g, g, g, g, g, g, g, g, g, g, g, g, g, g, g, g, g, g, g, g, g, g, g, g, g, g, g, g, g, g, g, g, g, g, g, g] (T ++ [some (H [])]) = bw12St l t A ([], Int.toNat e) ∧ ae ([], Int.toNat e)) ∧ ∀ (a : List Wr × Nat), let ad := ax12St l t A a; let aa := Sl.e (at' l (Prod.snd a + u)); let Q := Int.toNat t - a.2; let L := at' l (av12F l t (Prod.snd a)); let F := List.map wrE (Prod.fst a); let z := List.length a.1; let Z := z + u ≤ (9223372036854775807 : Nat); let S := (z + u) * (64 : Nat) ≤ (140737488355328 : Nat); let s := (↑a.2 : Int); let af := Decidable.decide (s < t); let ac := s + B; let R := ww12R (a.1 ++ [Wr.mk s (at' l (av12F l t a.2))]); let M := [AV.agg [h s, AV.bool true, G v, G w, G m, G n, h k, h j]]; let o := [some q, some Y, some (H (ww12R a.1))]; let i := Sl.e L; let C := [AV.agg [h s, AV.bool L.1, G i.1, G i.2, G i.3, G i.4, h i.5, h i.6]]; ae a → (af = true → K ac ∧ K ac ∧ (St.mk [W, g, h t, g, g, g, g, D, g, P (z), h s, h ac, h ac, g, g, g, g, g, g, g, g, g, g, g, g, g, g, g, g, g, g, g, g, g, g, g, g, g, g, g, g, g, g, g, g, g, g, g, g, g, g, g, g, g, g, g, g, g] o = ad r ∧ Nat.le r Q) ∧ ∀ (b : Nat), let X := Sl.e (at' l (Prod.snd a + u + b)); let J := (↑b : Int); let ab := Decidable.decide (s + B + J ≤ t); let V := s + B + J + B; let I := X.5 == aa.5; let E := (↑(abN l a.2 b) : Int); Nat.le b Q → (ab = true → ((0 : Int) ≤ s + B + J ∧ s + B + J < (↑x : Int)) ∧ Blk.read Proofs.Try.prog q (3 : Nat) (r + Int.toNat (s + B + J)) (r + u + (4 : Nat)) = some (h X.5) ∧ K ac ∧ ((0 : Int) ≤ s + B ∧ s + B < (↑x : Int)) ∧ Blk.read Proofs.Try.prog q (3 : Nat) (r + Int.toNat ac) (r + u + (4 : Nat)) = some (h aa.5) ∧ (I = true → K V ∧ ∃ (c : Nat), St.mk [W, g, h t, g, g, g, g, D, g, P (z), h s, h (s + B + J), h V, g, g, g, g, g, g, g, g, g, g, g, g, g, g, g, g, g, g, g, g, g, g, g, g, g, g, g, g, g, g, g, g, g, g, g, g, g, g, g, g, g, g, g, g, g] o = ad c ∧ Nat.le c Q ∧ N + u - c < N + u - b) ∧ (I = false → K V ∧ ∃ (d : Nat), St.mk [W, g, h t, g, g, g, g, D, g, P (z), h s, h E, h V, g, g, g, g, g, g, g, g, g, g, g, g, g, g, g, g, g, g, g, g, g, g, g, g, g, g, g, g, g, g, g, g, g, g, g, g, g, g, g, g, g, g, g, g, g] o = ad d ∧ Nat.le d Q ∧ N + u - d < N + u - b)) ∧ (ab = false → ((0 : Int) ≤ E ∧ E < (↑x : Int)) ∧ Blk.read Proofs.Try.prog q (78 : Nat) (r + Int.toNat E) r = some (AV.agg [AV.bool L.1, G i.1, G i.2, G i.3, G i.4, h i.5, h i.6]) ∧ (S ∧ Z ∧ r + u ≤ List.length C ∧ z ≤ List.length F) ∧ List.take (z) F ++ C = R ∧ ∃ (f : List Wr × Nat), St.mk [W, g, h t, g, g, g, g, D, g, P (z + u), h E, g, g, g, g, g, g, g, g, g, g, g, g, g, g, g, g, g, g, g, g, g, g, g, g, g, g, g, g, g, g, g, g, g, g, g, g, g, g, g, g, g, g, g, g, g, g, g] [some q, some Y, some (O (85 : Nat) (8 : Nat) true (R))] = bw12St l t A f ∧ ae f ∧ N - f.2 < N - a.2)) ∧ (af = false → (S ∧ Z ∧ r + u ≤ List.length M ∧ z ≤ List.length F) ∧ List.take (z) F ++ M = U ∧ z + u = List.length es ∧ some (O (85 : Nat) (8 : Nat) true (U)) = some (H es)))) := by kernel_rfl

theorem rabove12_ok : SpecOK Try.prog 52 (genSpec [pRefS, none, none, none] rabove12F) := by
  refine genSpec_ok none_ok fun l R hF => ?_
  unfold rabove12F at hF
  split at hF
  · rename_i r_l e t v w m n k j
    obtain ⟨hr_l, hl, hF⟩ := hF
    generalize deS r_l = l at hr_l hl hF
    subst hr_l
    obtain ⟨he, hF⟩ := hF
    refine ⟨_, hF, trivial, (av12H l t ⟨v, w, m, n, k, j⟩ e), ?_⟩
    show run [] Try.prog _ [.vsl 0 0 (l.map slE).length, .int .i64 e, .int .i64 t, .agg [.w64 v, .w64 w, .w64 m, .w64 n, .int .i64 k, .int .i64 j]] [some ⟨false, (pRefS.getD (0, 0)).1, (pRefS.getD (0, 0)).2, true, (l.map slE)⟩] _ _
    rw [rabove12_run]; (conv => zeta)
    generalize hx : (⟨v, w, m, n, k, j⟩ : En) = x
    obtain ⟨he0, he1, ht0, ht1⟩ := he
    have hlm : (l.map slE).length = l.length := List.length_map _
    have lW : ∀ L : List Wr, (List.map wrE L).length = L.length := fun L => List.length_map _
    have hbl := aboS_len l t.toNat x _ e.toNat (Nat.le_refl _)
    refine ⟨⟨by unfold bw12St; rw [Int.toNat_of_nonneg he0, ← hx]; rfl, by show e.toNat < l.length; omega, List.nil_append _⟩, ?_⟩
    rintro ⟨o, p⟩ ⟨hp, hI⟩
    dsimp only at hp hI ⊢
    have ho : o.length ≤ 1000000 := by
      have := congrArg List.length hI
      rw [List.length_append] at this
      omega
    refine ⟨fun hlt => ?_, fun hge => ?_⟩
    · have htp : p < t.toNat := by have := of_decide_eq_true hlt; omega
      refine ⟨inR (by omega) (by omega), inR (by omega) (by omega), ⟨by unfold ax12St abN; simp only [Int.natCast_zero, Int.add_zero, Int.natCast_add, ← hx]; rfl, Nat.zero_le _⟩, ?_⟩
      intro d (hd0 : d ≤ t.toNat - p)
      refine ⟨fun hlt2 => ?_, fun hge2 => ?_⟩
      · have hd : d < t.toNat - p := by have := of_decide_eq_true hlt2; omega
        have B1 : 0 ≤ (p : Int) + 1 + d ∧ (p : Int) + 1 + d < ((l.map slE).length : Int) := by omega
        have B2 : 0 ≤ (p : Int) + 1 ∧ (p : Int) + 1 < ((l.map slE).length : Int) := by omega
        have ed : ((p : Int) + 1 + d).toNat = p + 1 + d := by omega
        have ep : ((p : Int) + 1).toNat = p + 1 := by omega
        have en : (p : Int) + 1 + ((d + 1 : Nat) : Int) = (p : Int) + 1 + d + 1 := by omega
        have ei : ((p + 1 + d : Nat) : Int) = (p : Int) + 1 + d := by omega
        have i2 : inRange .i64 ((p : Int) + 1 + d + 1) := inR (by omega) (by omega)
        have g1 : abN l p (d + 1) = if (at' l (p + 1 + d)).e.len = (at' l (p + 1)).e.len then p + 1 + d else abN l p d := rfl
        refine ⟨B1, read_rows B1.1 B1.2 (by rw [ed]; exact sl_len _), inR (by omega) (by omega), B2, read_rows B2.1 B2.2 (by rw [ep]; exact sl_len _), fun h => ?_, fun h => ?_⟩
        · rw [if_pos (by simpa using h)] at g1
          exact ⟨i2, d + 1, by unfold ax12St; dsimp only; rw [g1, en, ei, ← hx]; rfl, hd, by omega⟩
        · rw [if_neg (by simpa using h)] at g1
          exact ⟨i2, d + 1, by unfold ax12St; dsimp only; rw [g1, en, ← hx]; rfl, hd, by omega⟩
      · have hd : d = t.toNat - p := by have := of_decide_eq_false hge2; omega
        subst hd
        have hF := abN_gt l p (t.toNat - p)
        have hF2 := (abN_le l p (t.toNat - p)).resolve_right (by omega)
        have B : 0 ≤ ((abN l p (t.toNat - p) : Nat) : Int) ∧ ((abN l p (t.toNat - p) : Nat) : Int) < ((l.map slE).length : Int) := by omega
        refine ⟨B, read_rows B.1 B.2 (by rw [Int.toNat_natCast]; exact rsl_whole _), ⟨by omega, by omega, Nat.le_refl _, by rw [lW]; exact Nat.le_refl _⟩, ?_, (o ++ [⟨p, at' l (abN l p (t.toNat - p))⟩], abN l p (t.toNat - p)), ?_, ⟨by show abN l p (t.toNat - p) < l.length; omega, ?_⟩, by show l.length - abN l p (t.toNat - p) < l.length - p; omega⟩
        · rw [List.take_of_length_le (by rw [lW]; exact Nat.le_refl _)]
          show _ = List.map wrE _
          rw [List.map_append]; rfl
        · unfold bw12St
          rw [List.length_append, ← hx]; rfl
        · show (o ++ [_]) ++ aboS l t.toNat x _ = _
          rw [← hI, aboS_step htp, List.append_assoc]; rfl
    · have htp : ¬ p < t.toNat := by have := of_decide_eq_false hge; omega
      rw [aboS_end htp] at hI
      refine ⟨⟨by omega, by omega, Nat.le_refl _, by rw [lW]; exact Nat.le_refl _⟩, ?_, ?_, rfl⟩
      · rw [List.take_of_length_le (by rw [lW]; exact Nat.le_refl _), ← hI]
        show _ = List.map wrE _
        rw [List.map_append, ← hx]; rfl
      · rw [lW, ← hI, List.length_append]; rfl
  · exact hF.elim


def rinsert12F : List Arg → (Res → Prop) → Prop
  | [.row r_l, .v (.agg [.w64 v, .w64 w, .w64 m, .w64 n, .int .i64 k, .int .i64 j])], R => r_l = (deS r_l).map slE ∧ (deS r_l).length ≤ 1000000 ∧ R (.many [.vrow 85 8 ((inW (deS r_l) ⟨v, w, m, n, k, j⟩).map wrE), .v (.int .i64 (inE (deS r_l) ⟨v, w, m, n, k, j⟩))])
  | _, _ => False

noncomputable def rinsert12Cs : List (FuncId × Sx.Spec) := [(31, genSpec [none] erightF),
  (37, genSpec [pRefS] rkept12F),
  (51, genSpec [pRefS, none] rgap12F),
  (53, genSpec [pRefS, none, none, none] rbelow12F),
  (52, genSpec [pRefS, none, none, none] rabove12F)]

theorem rinsert12_run (l : List Sl) (v w m n : BitVec 64) (k j : Int) : run rinsert12Cs Try.prog 32 [.vsl 0 0 (l.map slE).length, .agg [.w64 v, .w64 w, .w64 m, .w64 n, .int .i64 k, .int .i64 j]] [some ⟨false, (pRefS.getD (0, 0)).1, (pRefS.getD (0, 0)).2, true, (l.map slE)⟩] (rn12H l ⟨v, w, m, n, k, j⟩) (yields (.many [.vrow 85 8 ((inW l ⟨v, w, m, n, k, j⟩).map wrE), .v (.int .i64 (inE l ⟨v, w, m, n, k, j⟩))])) =
    (let aw := Blk.mk true; let av := AV.w64; let ar := List.map slE l; let ab := (1 : Int); let Z := rn12I l k; let X := (0 : Int); let W := Blk.mk false (78 : TypeId) (7 : Nat) true ar; let U := (↑(gtS l k) : Int); let R := (1 : Nat); let P := (0 : Nat); let aa := AV.ptr (P + R) P P true; let N := List.length l; let L := aw (85 : TypeId) (8 : Nat) true; let E := (↑(gfS l k) : Int); let ak := inRange IntKind.i64 (E - ab); let D := List.length ar; let ao := P + D ≤ D; let al := AV.vsl P P (D); let C := En.mk v w m n k j; let Y := rn12St l C; let Q := List.map wrE (inW l C); let ax := List.length (Q); let A := AV.int IntKind.i64; let ai := [AV.agg [av v, av w, av m, av n, A k, A j]]; let af := A (inE l C); let az := A X = af; let B := [some W, some (aw (45 : TypeId) (6 : Nat) true ai)]; let y := List.take (D) (List.drop P ar); let ac := deS (y); let am := (↑(List.length ac) : Int); let V := y = List.map slE ac; let T := List.length ac ≤ (1000000 : Nat); let u := AV.any;(((!rtE C) = true → Q = [] ∧ A ab = af ∧ True) ∧ ((!rtE C) = false → ao ∧ V ∧ T ∧ ((!kpS ac) = true → Q = [] ∧ A (7 : Int) = af ∧ True) ∧ ((!kpS ac) = false → ao ∧ V ∧ T ∧ (St.mk [al, u, u, aa, u, u, A (↑(gfS ac k) : Int), A (↑(gtS ac k) : Int), A (-1 : Int), A (-1 : Int), A X, u, u, u, u, u, u, u, u, u, u, u, u, u, u, u, u, u, u, u, u, u, u, u, u, u, u, u, u, u, u, u, u, u, u, u, u, u, u, u, u, u, u, u, u, u, u, u, u, u, u, u, u, u, u, u, u, u, u, u, u, u, u, u, u, u, u, u, u, u, u, u, u, u, u, u, u, u, u, u, u, u, u, u, u, u, u, u, u, u, u] [some W, some (aw (45 : Nat) (6 : Nat) true ai)] = Y P ∧ Z P) ∧ ∀ (a : Nat), let an := dnN l k a; let aj := upN l k a; let aB := Decidable.decide (aj ≥ X); let aA := Decidable.decide (aj < X); let S := (↑a : Int); let aD := Decidable.decide (S < U); let aC := Decidable.decide (S ≥ E); let ay := S + ab; let aq := Decidable.decide (S < (↑(D) : Int)); let ae := Decidable.decide (S ≥ U); let O := Decidable.decide (an < X); let aE := O = false; let M := X ≤ aj ∧ aj < am ∧ X ≤ E - ab ∧ E - ab < am; let K := Decidable.decide (S < E); let au := K = true; let ap := K = false; let J := List.map wrE (aboS ac (Int.toNat (E - ab)) C (Int.toNat (aj))); let ag := List.length J = ax ∧ some (L J) = some (L (Q)); let I := List.map wrE (belS ac (Int.toNat U) C (Int.toNat (an))); let ah := List.length I = ax ∧ some (L I) = some (L (Q)); let ad := Decidable.decide ((↑(List.length J) : Int) < (↑(List.length I) : Int)); let H := St.mk [al, u, u, aa, u, u, A E, A U, A S, A S, A ay, u, u, u, u, u, u, u, u, u, u, u, u, u, u, u, u, u, u, u, u, u, u, u, u, u, u, u, u, u, u, u, u, u, u, u, u, u, u, u, u, u, u, u, u, u, u, u, u, u, u, u, u, u, u, u, u, u, u, u, u, u, u, u, u, u, u, u, u, u, u, u, u, u, u, u, u, u, u, u, u, u, u, u, u, u, u, u, u, u, u] B; let G := St.mk [al, u, u, aa, u, u, A E, A U, A S, A (aj), A ay, u, u, u, u, u, u, u, u, u, u, u, u, u, u, u, u, u, u, u, u, u, u, u, u, u, u, u, u, u, u, u, u, u, u, u, u, u, u, u, u, u, u, u, u, u, u, u, u, u, u, u, u, u, u, u, u, u, u, u, u, u, u, u, u, u, u, u, u, u, u, u, u, u, u, u, u, u, u, u, u, u, u, u, u, u, u, u, u, u, u] B; let F := inRange IntKind.i64 ay; let z := St.mk [al, u, u, aa, u, u, A E, A U, A (an), A S, A ay, u, u, u, u, u, u, u, u, u, u, u, u, u, u, u, u, u, u, u, u, u, u, u, u, u, u, u, u, u, u, u, u, u, u, u, u, u, u, u, u, u, u, u, u, u, u, u, u, u, u, u, u, u, u, u, u, u, u, u, u, u, u, u, u, u, u, u, u, u, u, u, u, u, u, u, u, u, u, u, u, u, u, u, u, u, u, u, u, u, u] B; let x := St.mk [al, u, u, aa, u, u, A E, A U, A (an), A (aj), A ay, u, u, u, u, u, u, u, u, u, u, u, u, u, u, u, u, u, u, u, u, u, u, u, u, u, u, u, u, u, u, u, u, u, u, u, u, u, u, u, u, u, u, u, u, u, u, u, u, u, u, u, u, u, u, u, u, u, u, u, u, u, u, u, u, u, u, u, u, u, u, u, u, u, u, u, u, u, u, u, u, u, u, u, u, u, u, u, u, u, u] B; Z a → (aq = true → (X ≤ S ∧ S < (↑(D) : Int)) ∧ Blk.read Proofs.Try.prog W (4 : Nat) (P + Int.toNat S) (P + P) = some (AV.bool (at' l a).1) ∧ ((at' l a).1 = true → F ∧ ∃ (b : Nat), x = Y b ∧ Z b ∧ N + R - b < N + R - a) ∧ ((at' l a).1 = false → (aC = true → (aD = true → (R = ax ∧ some (aw (85 : Nat) (8 : Nat) true [AV.agg [A S, AV.bool true, av v, av w, av m, av n, A k, A j]]) = some (L (Q))) ∧ az ∧ True) ∧ (aD = false → (ae = true → (O = true → (au → F ∧ ∃ (c : Nat), H = Y c ∧ Z c ∧ N + R - c < N + R - a) ∧ (ap → F ∧ ∃ (d : Nat), G = Y d ∧ Z d ∧ N + R - d < N + R - a)) ∧ (aE → (au → F ∧ ∃ (e : Nat), z = Y e ∧ Z e ∧ N + R - e < N + R - a) ∧ (ap → F ∧ ∃ (f : Nat), x = Y f ∧ Z f ∧ N + R - f < N + R - a))) ∧ (ae = false → (au → F ∧ ∃ (g : Nat), z = Y g ∧ Z g ∧ N + R - g < N + R - a) ∧ (ap → F ∧ ∃ (h : Nat), x = Y h ∧ Z h ∧ N + R - h < N + R - a)))) ∧ (aC = false → (ae = true → (O = true → (au → F ∧ ∃ (i : Nat), H = Y i ∧ Z i ∧ N + R - i < N + R - a) ∧ (ap → F ∧ ∃ (o : Nat), G = Y o ∧ Z o ∧ N + R - o < N + R - a)) ∧ (aE → (au → F ∧ ∃ (q : Nat), z = Y q ∧ Z q ∧ N + R - q < N + R - a) ∧ (ap → F ∧ ∃ (r : Nat), x = Y r ∧ Z r ∧ N + R - r < N + R - a))) ∧ (ae = false → (au → F ∧ ∃ (s : Nat), z = Y s ∧ Z s ∧ N + R - s < N + R - a) ∧ (ap → F ∧ ∃ (t : Nat), x = Y t ∧ Z t ∧ N + R - t < N + R - a))))) ∧ (aq = false → (O = true → (aA = true → Q = [] ∧ A (3 : Int) = af ∧ True) ∧ (aA = false → O = true ∧ ak ∧ ao ∧ V ∧ T ∧ M ∧ ag ∧ az ∧ True)) ∧ (aE → aE ∧ ao ∧ V ∧ T ∧ (X ≤ an ∧ an < am ∧ X ≤ U) ∧ (aB = true → ak ∧ ao ∧ V ∧ T ∧ M ∧ (ad = true → ak ∧ ao ∧ V ∧ T ∧ M ∧ ag ∧ az ∧ True) ∧ (ad = false → ah ∧ az ∧ True)) ∧ (aB = false → ah ∧ az ∧ True))))))) := by kernel_rfl

theorem rinsert12Cs_ok : ∀ e ∈ rinsert12Cs, SpecOK Try.prog e.1 e.2 := by
  intro e he
  simp only [rinsert12Cs, List.mem_cons, List.not_mem_nil, or_false] at he
  rcases he with rfl | rfl | rfl | rfl | rfl
  · exact rright8_ok
  · exact rkept12_ok
  · exact rgap12_ok
  · exact rbelow12_ok
  · exact rabove12_ok

theorem rinsert12_ok : SpecOK Try.prog 32 (genSpec [pRefS, none] rinsert12F) := by
  refine genSpec_ok (run_ok (l := rinsert12Cs) rinsert12Cs_ok mixed noNG) fun l R hF => ?_
  unfold rinsert12F at hF
  split at hF
  · rename_i r_l v w m n k j
    obtain ⟨hr_l, hl, hF⟩ := hF
    generalize deS r_l = l at hr_l hl hF
    subst hr_l
    refine ⟨_, hF, rfl, (rn12H l ⟨v, w, m, n, k, j⟩), ?_⟩
    show run rinsert12Cs Try.prog _ [.vsl 0 0 (l.map slE).length, .agg [.w64 v, .w64 w, .w64 m, .w64 n, .int .i64 k, .int .i64 j]] [some ⟨false, (pRefS.getD (0, 0)).1, (pRefS.getD (0, 0)).2, true, (l.map slE)⟩] _ _
    rw [rinsert12_run]; (conv => zeta)
    generalize hx : (⟨v, w, m, n, k, j⟩ : En) = x
    have ek : k = x.len := by rw [← hx]
    have hlm : (l.map slE).length = l.length := List.length_map _
    have lW : ∀ L : List Wr, (List.map wrE L).length = L.length := fun L => List.length_map _
    rw [ek]
    simp only [whole_row, deS_map, zLe, true_and, and_true, eq_self, hl]
    refine ⟨fun hr => ?_, fun hr => ⟨fun hk => ?_, fun hk => ?_⟩⟩
    · have hr := notTT hr
      unfold inW inE
      rw [hr]; exact ⟨rfl, rfl⟩
    · have hr := notF hr
      have hk := notTT hk
      unfold inW inE
      rw [hr, hk]; exact ⟨rfl, rfl⟩
    have hr := notF hr
    have hk := notF hk
    have hK := kpS_iff.1 hk
    have eW : inW l x = inO l x := by unfold inW; rw [hr, hk]; rfl
    have eE : inE l x = if inG l x.len < 0 ∧ dnG l x.len < 0 ∧ upG l x.len < 0 then 3 else 0 := by unfold inE; rw [hr, hk]; rfl
    have hft := gap_le hK x.len
    have hf := (gf_spec l x.len).1
    have ht := (gt_spec l x.len).1
    refine ⟨⟨by unfold rn12St dnN upN; rw [Nat.zero_sub, Nat.zero_min, ← hx]; rfl, Nat.zero_le _, fun j hj => absurd hj (Nat.not_lt_zero _)⟩, ?_⟩
    rintro i ⟨hi0, hI⟩
    have i0 : inRange .i64 ((i : Int) + 1) := inR (by omega) (by omega)
    refine ⟨fun hlt => ?_, fun hge => ?_⟩
    · have hi : i < l.length := by have := of_decide_eq_true hlt; omega
      have Bi : 0 ≤ (i : Int) ∧ (i : Int) < ((l.map slE).length : Int) := by omega
      have hd := dn_next l x.len i
      have hu := up_next l x.len i
      have nx : ∀ dv uv : Int, dv = dnN l x.len (i + 1) → uv = upN l x.len (i + 1) → (gfS l x.len ≤ i → i < gtS l x.len → (at' l i).ok = true) → inRange .i64 ((i : Int) + 1) ∧ ∃ p', (⟨[.vsl 0 0 (l.map slE).length, .any, .any, .ptr 1 0 0 true, .any, .any, .int .i64 (gfS l x.len), .int .i64 (gtS l x.len), .int .i64 dv, .int .i64 uv, .int .i64 ((i : Int) + 1), .any, .any, .any, .any, .any, .any, .any, .any, .any, .any, .any, .any, .any, .any, .any, .any, .any, .any, .any, .any, .any, .any, .any, .any, .any, .any, .any, .any, .any, .any, .any, .any, .any, .any, .any, .any, .any, .any, .any, .any, .any, .any, .any, .any, .any, .any, .any, .any, .any, .any, .any, .any, .any, .any, .any, .any, .any, .any, .any, .any, .any, .any, .any, .any, .any, .any, .any, .any, .any, .any, .any, .any, .any, .any, .any, .any, .any, .any, .any, .any, .any, .any, .any, .any, .any, .any, .any, .any, .any, .any], [rs12R l, some ⟨true, 45, 6, true, [.agg [.w64 v, .w64 w, .w64 m, .w64 n, .int .i64 x.len, .int .i64 j]]⟩]⟩ : St) = rn12St l x p' ∧ rn12I l x.len p' ∧ l.length + 1 - p' < l.length + 1 - i := by
        rintro dv uv rfl rfl hok
        refine ⟨i0, i + 1, by unfold rn12St ex12R; rw [← hx]; rfl, ⟨hi, fun q hq h1 h2 => ?_⟩, by omega⟩
        rcases Nat.lt_or_ge q i with h | h
        · exact hI q h h1 h2
        · obtain rfl : q = i := by omega
          exact hok h1 h2
      refine ⟨Bi, read_rows Bi.1 Bi.2 (sl_ok _), fun hok => ?_, fun hok => ⟨fun h1 => ⟨fun h2 => ?_, fun h2 => ⟨fun h3 => ⟨fun h4 => ⟨fun h5 => ?_, fun h5 => ?_⟩, fun h4 => ⟨fun h5 => ?_, fun h5 => ?_⟩⟩, fun h3 => ⟨fun h5 => ?_, fun h5 => ?_⟩⟩⟩, fun h1 => ⟨fun h3 => ⟨fun h4 => ⟨fun h5 => ?_, fun h5 => ?_⟩, fun h4 => ⟨fun h5 => ?_, fun h5 => ?_⟩⟩, fun h3 => ⟨fun h5 => ?_, fun h5 => ?_⟩⟩⟩⟩
      · have hok : (at' l i).ok = true := hok
        rw [hok] at hd hu
        refine nx _ _ ?_ ?_ fun _ _ => hok
        · rw [hd]
          split
          · rfl
          · split
            · rfl
            · rename_i h; exact dn_none h
        · rw [hu]
          split <;> rfl
      · have h1 : gfS l x.len ≤ i := by have := of_decide_eq_true h1; omega
        have h2 : i < gtS l x.len := by have := of_decide_eq_true h2; omega
        have hok : (at' l i).ok = false := hok
        have eG : inG l x.len = i := by
          unfold inG
          rcases geS_spec l (gtS l x.len - gfS l x.len) (gfS l x.len) with ⟨_, a⟩ | ⟨q, e, a, b, c, d⟩
          · rw [a i h1 (by omega)] at hok; cases hok
          · rw [e]
            rcases Nat.lt_trichotomy q i with h | rfl | h
            · rw [hI q h a (by omega)] at c; cases c
            · rfl
            · rw [d i h1 h] at hok; cases hok
        have e : inW l x = [⟨i, ⟨true, x⟩⟩] := by
          rw [eW]
          unfold inO
          rw [eG, if_neg (by omega)]
        rw [e, eE, eG, if_neg (by omega), ← hx]
        exact ⟨⟨rfl, rfl⟩, rfl⟩
      all_goals
        have hok : (at' l i).ok = false := hok
        rw [hok] at hd hu
        simp only [decide_eq_true_eq, decide_eq_false_iff_not] at h1 h3 h5
        first
          | (simp only [decide_eq_true_eq, decide_eq_false_iff_not] at h2 h4)
          | (simp only [decide_eq_false_iff_not] at h2)
          | (simp only [decide_eq_true_eq, decide_eq_false_iff_not] at h4)
          | skip
        first
          | (exfalso; omega)
          | (refine nx _ _ ?_ ?_ fun a b => ?_
             · rw [hd]
               first
                 | (rw [if_pos (by omega)])
                 | (rw [if_neg (by omega), if_pos (by omega)])
                 | (rw [if_neg (by omega), if_neg (by omega), if_neg (by simp)])
             · rw [hu]
               first
                 | (rw [if_pos (by omega), if_neg (by simp)])
                 | (rw [if_neg (by omega)])
             · exfalso; omega)
    · have hi : i = l.length := by have := of_decide_eq_false hge; omega
      subst hi
      have eD : dnN l x.len l.length = dnG l x.len := rfl
      have eU : upN l x.len l.length = upG l x.len := by unfold upN upG; rw [Nat.min_eq_right hf]
      have eG : inG l x.len < 0 := by
        unfold inG
        rcases geS_spec l (gtS l x.len - gfS l x.len) (gfS l x.len) with ⟨e, _⟩ | ⟨q, e, a, b, c, _⟩
        · omega
        · rw [hI q (by omega) a (by omega)] at c; cases c
      have bU : ∀ {z : Int}, upG l x.len = z → 0 ≤ z → z < gfS l x.len := fun {z} e hz => by
        unfold upG at e
        rcases upS_spec l (gfS l x.len) with ⟨e', _⟩ | ⟨q, e', a, _⟩ <;> omega
      have bD : ∀ {z : Int}, dnG l x.len = z → 0 ≤ z → z < l.length := fun {z} e hz => by
        unfold dnG at e
        rcases geS_spec l (l.length - gtS l x.len) (gtS l x.len) with ⟨e', _⟩ | ⟨q, e', _, a, _⟩ <;> omega
      have eA : aboS l ((gfS l x.len : Int) - 1).toNat x (upG l x.len).toNat = abo l x := by
        unfold abo
        rw [show ((gfS l x.len : Int) - 1).toNat = gfS l x.len - 1 from by omega]
      have eB : belS l ((gtS l x.len : Nat) : Int).toNat x (dnG l x.len).toNat = bel l x := by
        unfold bel
        rw [Int.toNat_natCast]
      simp only [eD, eU, eA, eB, eW, lW]
      have hO : inO l x = if dnG l x.len < 0 then (if upG l x.len < 0 then [] else abo l x) else if 0 ≤ upG l x.len ∧ (abo l x).length < (bel l x).length then abo l x else bel l x := by
        unfold inO
        rw [if_pos eG]
      refine ⟨fun h1 => ⟨fun h2 => ?_, fun h2 => ?_⟩, fun h1 => ?_⟩
      · have h1 := of_decide_eq_true h1
        have h2 := of_decide_eq_true h2
        rw [hO, if_pos h1, if_pos h2, eE, if_pos ⟨eG, h1, h2⟩]
        exact ⟨rfl, rfl⟩
      · have h2 := of_decide_eq_false h2
        have h1' := of_decide_eq_true h1
        have b := bU rfl (show 0 ≤ upG l x.len from by omega)
        rw [hO, if_pos h1', if_neg h2, eE, if_neg (show ¬ (inG l x.len < 0 ∧ dnG l x.len < 0 ∧ upG l x.len < 0) from by omega)]
        exact ⟨h1, inR (by omega) (by omega), ⟨by omega, by omega, by omega, by omega⟩, ⟨rfl, rfl⟩, rfl⟩
      · have h1' := of_decide_eq_false h1
        have bd := bD rfl (show 0 ≤ dnG l x.len from by omega)
        have eE' := eE.trans (if_neg (show ¬ (inG l x.len < 0 ∧ dnG l x.len < 0 ∧ upG l x.len < 0) from by omega))
        rw [hO, if_neg h1', eE']
        refine ⟨h1, ⟨by omega, bd, by omega⟩, fun h2 => ⟨?_, ?_, fun h3 => ?_, fun h3 => ?_⟩, fun h2 => ?_⟩
        · have h2 := of_decide_eq_true h2
          have b := bU rfl h2
          exact inR (by omega) (by omega)
        · have h2 := of_decide_eq_true h2
          have b := bU rfl h2
          exact ⟨by omega, by omega, by omega, by omega⟩
        · have h2 := of_decide_eq_true h2
          have h3 := of_decide_eq_true h3
          have b := bU rfl h2
          rw [if_pos ⟨by omega, by omega⟩]
          exact ⟨inR (by omega) (by omega), ⟨by omega, by omega, by omega, by omega⟩, ⟨rfl, rfl⟩, rfl⟩
        · have h3 := of_decide_eq_false h3
          rw [if_neg (by omega)]
          exact ⟨⟨rfl, rfl⟩, rfl⟩
        · have h2 := of_decide_eq_false h2
          rw [if_neg (by omega)]
          exact ⟨⟨rfl, rfl⟩, rfl⟩
  · exact hF.elim


end Go.Proofs.Ytcabofadpheomaa.L1
end

section
/-
  Layer 12: what the contracts of the program's calls say.
-/
namespace Go.Proofs.Ytcabofadpheomaa.L1
open Go.Sx Go.Sx.M

def gkept12F : List Arg → (Res → Prop) → Prop
  | [.row r_l], R => r_l = (deS r_l).map slE ∧ (deS r_l).length ≤ 1000000 ∧ R (.v (.bool (kpS (deS r_l))))
  | _, _ => False

def ggap12F : List Arg → (Res → Prop) → Prop
  | [.row r_l, .v (.int .i64 n)], R => r_l = (deS r_l).map slE ∧ (deS r_l).length ≤ 1000000 ∧ R (.v (.tuple [.int .i64 (if kpS (deS r_l) then (gfS (deS r_l) n : Int) else 0), .int .i64 (if kpS (deS r_l) then (gtS (deS r_l) n : Int) else 0)]))
  | _, _ => False

def ginsert12F : List Arg → (Res → Prop) → Prop
  | [.row r_l, .v (.agg [.w64 v, .w64 w, .w64 m, .w64 n, .int .i64 k, .int .i64 j])], R => r_l = (deS r_l).map slE ∧ (deS r_l).length ≤ 1000000 ∧ R (.many [.vrow 68 8 ((inW (deS r_l) ⟨v, w, m, n, k, j⟩).map wrE), .v (.int .i64 (inE (deS r_l) ⟨v, w, m, n, k, j⟩))])
  | _, _ => False

end Go.Proofs.Ytcabofadpheomaa.L1
end

section
/-
  Layer 12: the law's Writes, slot.
-/
namespace Go.Proofs.Ytcabofadpheomaa.L1
open Go.Sx Go.Sx.M

theorem eq_Wr {x y : Wr} : (x.p == y.p && (x.s.ok == y.s.ok && (x.s.e.v == y.s.e.v && x.s.e.w == y.s.e.w && (x.s.e.m == y.s.e.m && x.s.e.n == y.s.e.n) && (x.s.e.len == y.s.e.len && x.s.e.act == y.s.e.act)))) = decide (x = y) := by
  obtain ⟨p, s⟩ := x
  obtain ⟨q, t⟩ := y
  rw [eq_Sl, Bool.eq_iff_iff, decide_eq_true_eq]
  simp only [Bool.and_eq_true, beq_iff_eq, decide_eq_true_eq, Wr.mk.injEq]

def wq12St (l m : List Wr) (p : Nat) : St :=
  ⟨[.any, .vsl 1 0 (m.map wrE).length, .any, .any, .any, .vsl 2 0 (l.map wrE).length, .any, .any, .any, .any, .any, .any, .any, .any, .any, .int .i64 (l.map wrE).length, .int .i64 p, .any, .any, .any, .any, .any, .any, .any, .any, .any, .any, .any, .any], [some ⟨false, 68, 8, true, l.map wrE⟩, some ⟨false, 85, 8, true, m.map wrE⟩, some ⟨true, 85, 8, true, l.map wrE⟩]⟩
def wq12M0 : Modes := ⟨[0, 1, 0, 0, 0, 1, 0, 0, 0, 0, 0, 0, 0, 0, 0, 1, 2, 0, 0, 0, 0, 0, 0, 0, 0, 0, 0, 0, 0], [], [], [], []⟩
def wq12M : Modes := ⟨[0, 1, 0, 0, 0, 1, 0, 0, 0, 0, 0, 0, 0, 0, 0, 1, 1, 0, 0, 0, 0, 0, 0, 0, 0, 0, 0, 0, 0], [], [], [], []⟩
def wq12M' : Modes := ⟨[0, 0, 0, 0, 2, 0, 0, 0, 0, 0, 0, 0, 0, 0, 0, 0, 0, 0, 0, 0, 0, 0, 0, 0, 0, 0, 0, 0, 0], [], [], [], []⟩
def wq12I (l m : List Wr) (p : Nat) : Prop := p ≤ l.length ∧ ∀ j, j < p → at' l j = at' m j
def wq12H (l m : List Wr) : List Hint := [.fork [] [.linv _ 0 (wq12St l m) (wq12I l m) (fun p => l.length + 1 - p) wq12M0 wq12M wq12M' (fun _ => []) fun p =>
  [.fork [.dy, .cell (wrE (at' l p)), .dy, .cell (wrE (at' m p)), .fork [] [.nw]] []]]]

def writes12F : List Arg → (Res → Prop) → Prop
  | [.row r_l, .row r_m], R => r_l = (deW r_l).map wrE ∧ (deW r_l).length ≤ 1000000 ∧ r_m = (deW r_m).map wrE ∧ (deW r_m).length ≤ 1000000 ∧ R (.v (.bool (decide ((deW r_l) = (deW r_m)))))
  | _, _ => False

noncomputable def writes12Cs : List (FuncId × Sx.Spec) := [(35, genSpec [pWr] writes8F)]

theorem writes12_run (l m : List Wr) (r : AV) : run writes12Cs Try.prog 13 [.vsl 0 0 (l.map wrE).length, .vsl 1 0 (m.map wrE).length] [some ⟨false, (pWr.getD (0, 0)).1, (pWr.getD (0, 0)).2, true, (l.map wrE)⟩, some ⟨false, (pRefW.getD (0, 0)).1, (pRefW.getD (0, 0)).2, true, (m.map wrE)⟩] (wq12H l m) (yields (.v r)) =
    (let A := AV.w64; let u := (1 : Nat); let q := Blk.mk true (85 : TypeId) (8 : Nat) true; let j := (0 : Nat); let i := AV.int IntKind.i64; let h := AV.any; let e := List.map wrE; let w := Blk.mk false (68 : TypeId) (8 : Nat) true (e l); let t := List.length (e m); let n := Blk.mk false (85 : TypeId) (8 : Nat) true (e m); let k := List.length (e l); let D := (↑(k) : Int); let c := List.take (k) (List.drop j (e l)); let C := deW (c); let o := List.length (e C); let B := (↑o : Int) != (↑t : Int);(j + k ≤ k ∧ c = e C ∧ List.length C ≤ (1000000 : Nat) ∧ (B = true → AV.bool false = r) ∧ (B = false → (St.mk [h, AV.vsl (j + u) j t, h, h, h, AV.vsl (j + u + u) j o, h, h, h, h, h, h, h, h, h, i (↑o : Int), i (0 : Int), h, h, h, h, h, h, h, h, h, h, h, h] [some w, some n, some (q (e C))] = wq12St l m j ∧ wq12I l m j) ∧ ∀ (a : Nat), let z := Wr.s (at' l a); let y := Wr.s (at' m a); let s := (↑a : Int); let x := Decidable.decide (s < D); let g := Sl.e y; let f := Sl.e z; let d := !((at' l a).1 == (at' m a).1 && (z.1 == y.1 && (f.1 == g.1 && f.2 == g.2 && (f.3 == g.3 && f.4 == g.4) && (f.5 == g.5 && f.6 == g.6)))); wq12I l m a → (x = true → ((0 : Int) ≤ s ∧ s < D) ∧ Blk.read Proofs.Try.prog (q (e l)) (85 : Nat) (j + Int.toNat s) j = some (AV.agg [i (at' l a).1, AV.bool z.1, A f.1, A f.2, A f.3, A f.4, i f.5, i f.6]) ∧ ((0 : Int) ≤ s ∧ s < (↑t : Int)) ∧ Blk.read Proofs.Try.prog n (85 : Nat) (j + Int.toNat s) j = some (AV.agg [i (at' m a).1, AV.bool y.1, A g.1, A g.2, A g.3, A g.4, i g.5, i g.6]) ∧ (d = true → AV.bool false = r) ∧ (d = false → inRange IntKind.i64 (s + (1 : Int)) ∧ ∃ (b : Nat), St.mk [h, AV.vsl (j + u) j t, h, h, h, AV.vsl (j + u + u) j (k), h, h, h, h, h, h, h, h, h, i D, i (s + (1 : Int)), h, h, h, h, h, h, h, h, h, h, h, h] [some w, some n, some (q (e l))] = wq12St l m b ∧ wq12I l m b ∧ List.length l + u - b < List.length l + u - a)) ∧ (x = false → AV.bool true = r)))) := by kernel_rfl

theorem writes12Cs_ok : ∀ e ∈ writes12Cs, SpecOK Try.prog e.1 e.2 := by
  intro e he
  simp only [writes12Cs, List.mem_cons, List.not_mem_nil, or_false] at he
  rcases he with rfl
  · exact writes8_ok

theorem writes12_ok : SpecOK Try.prog 13 (genSpec [pWr, pRefW] writes12F) := by
  refine genSpec_ok (run_ok (l := writes12Cs) writes12Cs_ok mixed noNG) fun l R hF => ?_
  unfold writes12F at hF
  split at hF
  · rename_i r_l r_m
    obtain ⟨hr_l, hl, hF⟩ := hF
    generalize deW r_l = l at hr_l hl hF
    subst hr_l
    obtain ⟨hr_m, hm, hF⟩ := hF
    generalize deW r_m = m at hr_m hm hF
    subst hr_m
    refine ⟨_, hF, rfl, (wq12H l m), ?_⟩
    show run writes12Cs Try.prog _ [.vsl 0 0 (l.map wrE).length, .vsl 1 0 (m.map wrE).length] [some ⟨false, (pWr.getD (0, 0)).1, (pWr.getD (0, 0)).2, true, (l.map wrE)⟩, some ⟨false, (pRefW.getD (0, 0)).1, (pRefW.getD (0, 0)).2, true, (m.map wrE)⟩] _ _
    rw [writes12_run]; (conv => zeta)
    simp only [eq_Wr, whole_row, deW_map, zLe, true_and, eq_self, hl]
    refine ⟨fun h => ?_, fun h => ⟨⟨rfl, Nat.zero_le _, fun j hj => by omega⟩, ?_⟩⟩
    · have h : l.length ≠ m.length := by simp at h; omega
      rw [decide_eq_false fun e => h (by rw [e])]
    · have h : l.length = m.length := by simp at h; omega
      rintro p ⟨h1, h2⟩
      refine ⟨fun hlt => ?_, fun hge => ?_⟩
      · have hp : p < l.length := by simp only [decide_eq_true_eq, List.length_map] at hlt; omega
        have B : 0 ≤ (p : Int) ∧ (p : Int) < ((l.map wrE).length : Int) := by rw [List.length_map]; omega
        have B2 : 0 ≤ (p : Int) ∧ (p : Int) < ((m.map wrE).length : Int) := by rw [List.length_map]; omega
        refine ⟨B, read_rows B.1 B.2 (rwr_whole _), B2, read_rows B2.1 B2.2 (rwr_whole _), fun hne => ?_, fun he => ⟨inR (by omega) (by omega), p + 1, rfl, ⟨by omega, up h2 ?_⟩, by omega⟩⟩
        · have hne : at' l p ≠ at' m p := by simpa using hne
          rw [decide_eq_false fun e => hne (by rw [e])]
        · simpa using he
      · have hp : p = l.length := by simp only [decide_eq_false_iff_not, List.length_map] at hge; omega
        subst hp
        rw [decide_eq_true (show l = m from List.ext_getElem h fun j a b => by rw [← at_eq a, ← at_eq b]; exact h2 j a)]
  · exact hF.elim


end Go.Proofs.Ytcabofadpheomaa.L1
end

