/-
  Texts in one: L11T L11U L14A L14C L14J L14B L14D.
-/
import Derived.Test.YtcabofadpheomaaL5a
import Derived.Test.YtcabofadpheomaaMa
import Derived.Test.YtcabofadpheomaaL12a
import Derived.Test.YtcabofadpheomaaL13a
import Derived.Test.YtcabofadpheomaaMd
import Derived.Test.YtcabofadpheomaaL8a

section
/-
  Layer 11: steps as values of the calculus.
-/
namespace Go.Proofs.Ytcabofadpheomaa.L1
open Go.Sx Go.Sx.M

/-- A step's cells. -/
def spE (s : Sp) : AV := .agg [.int .i64 s.k, .w64 s.e.v, .w64 s.e.w, .w64 s.e.m, .w64 s.e.n, .int .i64 s.e.len, .int .i64 s.e.act]

def deSp1 (x : AV) : Sp := ⟨cI (x.cells.getD 0 .any), ⟨cW (x.cells.getD 1 .any), cW (x.cells.getD 2 .any), cW (x.cells.getD 3 .any), cW (x.cells.getD 4 .any), cI (x.cells.getD 5 .any), cI (x.cells.getD 6 .any)⟩⟩
def deSp (l : List AV) : List Sp := l.map deSp1
theorem deSp_map (l : List Sp) : deSp (l.map spE) = l := by
  unfold deSp
  rw [List.map_map]
  exact List.map_id l

/-- Rows of the program's steps. -/
def pSp : Par := some (31, 7)

theorem sp_whole (s : Sp) : partOf Try.prog 31 (spE s).cells 0 = some (spE s) := by kernel_rfl
theorem rsp_kind (s : Sp) : partOf Try.prog 3 (spE s).cells 0 = some (.int .i64 s.k) := by kernel_rfl

end Go.Proofs.Ytcabofadpheomaa.L1
end

section
/-
  Layer 11: rows of the document's steps.
-/
namespace Go.Proofs.Ytcabofadpheomaa.L1
open Go.Sx Go.Sx.M

def pRefSp : Par := some (47, 7)
theorem rsp_whole (s : Sp) : partOf Try.prog 47 (spE s).cells 0 = some (spE s) := by kernel_rfl

end Go.Proofs.Ytcabofadpheomaa.L1
end

section
/-
  Layer 14: the document's Kept, One.
-/
namespace Go.Proofs.Ytcabofadpheomaa.L1
open Go.Sx Go.Sx.M

def rs14R (l : List Sl) : Option Blk := some ⟨false, 78, 7, true, l.map slE⟩
def pp14R (w : List Wr) : List AV := List.map wrE w
def st14R (s : Sp) : Option Blk := some ⟨true, 47, 7, true, [spE s]⟩

theorem rsl_ent (x : Sl) : partOf Try.prog 45 (slE x).cells 1 = some (enE x.e) := by kernel_rfl

/-- One: its loop. -/
def on14St (l : List Sl) (s : Sp) (p : Nat) : St := ⟨[.any, .vsl 0 0 (l.map slE).length, .any, .any, .any, .ptr 1 0 0 true, .any, .any, .vsl 2 0 (tcW l s p).length, .int .i64 p, .any, .any, .any, .any, .any, .any, .any, .any, .any, .any, .any, .any, .any, .any, .any, .any, .any, .any, .any, .any, .any, .any, .any, .any, .any, .any, .any, .any, .any, .any, .any, .any, .any, .any, .any, .any, .any, .any, .any, .any, .any, .any, .any, .any, .any, .any, .any, .any, .any, .any, .any, .any, .any, .any, .any, .any, .any, .any, .any, .any, .any, .any, .any, .any, .any, .any, .any, .any, .any, .any, .any, .any, .any, .any, .any, .any, .any, .any, .any, .any, .any, .any, .any, .any, .any, .any, .any, .any, .any, .any, .any, .any, .any, .any, .any, .any, .any, .any, .any], [rs14R l, st14R s, some ⟨true, 85, 8, true, pp14R (tcW l s p)⟩]⟩
def on14M0 : Modes := ⟨[0, 1, 0, 0, 0, 1, 0, 0, 1, 2, 0, 0, 0, 0, 0, 0, 0, 0, 0, 0, 0, 0, 0, 0, 0, 0, 0, 0, 0, 0, 0, 0, 0, 0, 0, 0, 0, 0, 0, 0, 0, 0, 0, 0, 0, 0, 0, 0, 0, 0, 0, 0, 0, 0, 0, 0, 0, 0, 0, 0, 0, 0, 0, 0, 0, 0, 0, 0, 0, 0, 0, 0, 0, 0, 0, 0, 0, 0, 0, 0, 0, 0, 0, 0, 0, 0, 0, 0, 0, 0, 0, 0, 0, 0, 0, 0, 0, 0, 0, 0, 0, 0, 0, 0, 0, 0, 0, 0, 0], [], [], [], [(8, 85, 8)]⟩
def on14M : Modes := ⟨[0, 1, 0, 0, 0, 1, 0, 0, 1, 1, 0, 0, 0, 0, 0, 0, 0, 0, 0, 0, 0, 0, 0, 0, 0, 0, 0, 0, 0, 0, 0, 0, 0, 0, 0, 0, 0, 0, 0, 0, 0, 0, 0, 0, 0, 0, 0, 0, 0, 0, 0, 0, 0, 0, 0, 0, 0, 0, 0, 0, 0, 0, 0, 0, 0, 0, 0, 0, 0, 0, 0, 0, 0, 0, 0, 0, 0, 0, 0, 0, 0, 0, 0, 0, 0, 0, 0, 0, 0, 0, 0, 0, 0, 0, 0, 0, 0, 0, 0, 0, 0, 0, 0, 0, 0, 0, 0, 0, 0], [], [], [], []⟩
def on14M' : Modes := ⟨[0, 0, 0, 0, 0, 0, 0, 0, 1, 0, 0, 0, 0, 0, 0, 0, 0, 0, 0, 0, 0, 0, 0, 0, 0, 0, 0, 0, 0, 0, 0, 0, 0, 0, 0, 0, 0, 0, 0, 0, 0, 0, 0, 0, 0, 0, 0, 0, 0, 0, 0, 0, 0, 0, 0, 0, 0, 0, 0, 0, 0, 0, 0, 0, 0, 0, 0, 0, 0, 0, 0, 0, 0, 0, 0, 0, 0, 0, 0, 0, 0, 0, 0, 0, 0, 0, 0, 0, 0, 0, 0, 0, 0, 0, 0, 0, 0, 0, 0, 0, 0, 0, 0, 0, 0, 0, 0, 0, 0], [], [], [], []⟩
def on14P (l : List Sl) (s : Sp) (p : Nat) : Hint := .rows (pp14R (tcW l s (p + 1)))
def on14L (l : List Sl) (s : Sp) : List Hint := [.linv _ 0 (on14St l s) (fun p => p ≤ l.length) (fun p => l.length + 1 - p) on14M0 on14M on14M' (fun _ => []) fun p =>
  [.fork [.dy, .cell (.bool (at' l p).ok), .fork [.nw] [.dy, .cell (enE (at' l p).e), .fork [.nw]
    [.fork [on14P l s p, .br false, .nw] [.fork [.dy, .cell (.int .i64 (at' l p).e.act), .fork [on14P l s p, .nw] [.nw]] [.nw]]]]] []]]
def on14H (l : List Sl) (s : Sp) : List Hint := [.fork [] [.fork [] [.fork [] [.fork [] [.fork [] [.fork [.fork [] [.br true]] (.br false :: on14L l s)]]]]]]

def rone14F : List Arg → (Res → Prop) → Prop
  | [.v (.int .i64 o), .row r_l, .v (.agg [.int .i64 i, .w64 v, .w64 w, .w64 m, .w64 n, .int .i64 k, .int .i64 j])], R => r_l = (deS r_l).map slE ∧ (deS r_l).length ≤ 1000000 ∧
      R (.many [.vrow 85 8 ((oneW o (deS r_l) ⟨i, v, w, m, n, k, j⟩).map wrE), .v (.int .i64 (oneE o (deS r_l) ⟨i, v, w, m, n, k, j⟩))])
  | _, _ => False

def ralike14F : List Arg → (Res → Prop) → Prop
  | [.v (.agg [.w64 v, .w64 w, .w64 m, .w64 n, .int .i64 k, .int .i64 j]), .v (.agg [.w64 c, .w64 d, .w64 p, .w64 q, .int .i64 s, .int .i64 t])], R => R (.v (.bool (alE ⟨v, w, m, n, k, j⟩ ⟨c, d, p, q, s, t⟩)))
  | _, _ => False

theorem ralike14_run (v w m n : BitVec 64) (k j : Int) (c d p q : BitVec 64) (s t : Int) (r : AV) : run [] Try.prog 34 [.agg [.w64 v, .w64 w, .w64 m, .w64 n, .int .i64 k, .int .i64 j], .agg [.w64 c, .w64 d, .w64 p, .w64 q, .int .i64 s, .int .i64 t]] [] [.fork [] []] (yields (.v r)) =
    (((v == c && w == d && (m == p && n == q)) = true → AV.bool (k == s) = r) ∧ ((v == c && w == d && (m == p && n == q)) = false → AV.bool false = r)) := by kernel_rfl

theorem ralike14_ok : SpecOK Try.prog 34 (genSpec [none, none] ralike14F) := by
  refine genSpec_ok none_ok fun l R hF => ?_
  unfold ralike14F at hF
  split at hF
  · rename_i v w m n k j c d p q s t
    refine ⟨_, hF, rfl, [.fork [] []], ?_⟩
    show run [] Try.prog _ [.agg [.w64 v, .w64 w, .w64 m, .w64 n, .int .i64 k, .int .i64 j], .agg [.w64 c, .w64 d, .w64 p, .w64 q, .int .i64 s, .int .i64 t]] [] _ _
    rw [ralike14_run]
    refine ⟨fun h => ?_, fun h => ?_⟩
    · show AV.bool (k == s) = AV.bool ((v == c && w == d && (m == p && n == q)) && k == s)
      rw [h, Bool.true_and]
    · show AV.bool false = AV.bool ((v == c && w == d && (m == p && n == q)) && k == s)
      rw [h, Bool.false_and]
  · exact hF.elim


def rkept14F : List Arg → (Res → Prop) → Prop
  | [.v (.int .i64 o), .row r_l], R => r_l = (deS r_l).map slE ∧ (deS r_l).length ≤ 1000000 ∧ R (.v (.bool (kpO o (deS r_l))))
  | _, _ => False

noncomputable def rkept14Cs : List (FuncId × Sx.Spec) := [(37, genSpec [pRefS] rkept12F),
  (38, genSpec [pRefE] rorderedF),
  (39, genSpec [pRefS] rentries8F)]

theorem rkept14_run (o : Int) (l : List Sl) (r : AV) : run rkept14Cs Try.prog 16 [.int .i64 o, .vsl 0 0 (l.map slE).length] [some ⟨false, (pRefS.getD (0, 0)).1, (pRefS.getD (0, 0)).2, true, (l.map slE)⟩] [.fork [] [.fork [] []]] (yields (.v r)) =
    (let g := (0 : Nat); let f := List.map slE; let c := List.length (f l); let a := List.take (c) (List.drop g (f l)); let e := deS (a); let h := List.length e ≤ (1000000 : Nat); let d := List.map enE (ensS e); let i := List.length d; let b := List.take (i) (List.drop g d);(((o == (0 : Int)) = true → g + c ≤ c ∧ a = f e ∧ h ∧ AV.bool (kpS e) = r) ∧ ((o == (0 : Int)) = false → ((o == (1 : Int)) = true → g + c ≤ c ∧ a = f e ∧ h ∧ g + i ≤ i ∧ b = List.map enE (deE (b)) ∧ List.length (deE (b)) ≤ (9223372036854775807 : Nat) ∧ AV.bool (orE (deE (b))) = r) ∧ ((o == (1 : Int)) = false → AV.bool false = r)))) := by kernel_rfl

theorem rkept14Cs_ok : ∀ e ∈ rkept14Cs, SpecOK Try.prog e.1 e.2 := by
  intro e he
  simp only [rkept14Cs, List.mem_cons, List.not_mem_nil, or_false] at he
  rcases he with rfl | rfl | rfl
  · exact rkept12_ok
  · exact rordered_ok
  · exact rentries8_ok

theorem rkept14_ok : SpecOK Try.prog 16 (genSpec [none, pRefS] rkept14F) := by
  refine genSpec_ok (run_ok (l := rkept14Cs) rkept14Cs_ok mixed noNG) fun l R hF => ?_
  unfold rkept14F at hF
  split at hF
  · rename_i o r_l
    obtain ⟨hr_l, hl, hF⟩ := hF
    generalize deS r_l = l at hr_l hl hF
    subst hr_l
    refine ⟨_, hF, rfl, [.fork [] [.fork [] []]], ?_⟩
    show run rkept14Cs Try.prog _ [.int .i64 o, .vsl 0 0 (l.map slE).length] [some ⟨false, (pRefS.getD (0, 0)).1, (pRefS.getD (0, 0)).2, true, (l.map slE)⟩] _ _
    rw [rkept14_run]; (conv => zeta)
    have hE := ensS_length l
    simp only [whole_row, deS_map, deE_map, zLe, true_and, hl, eq_true (show (ensS l).length ≤ 9223372036854775807 by omega)]
    unfold kpO
    refine ⟨fun h => ?_, fun h => ⟨fun h1 => ?_, fun h1 => ?_⟩⟩
    · have h : o = 0 := by simpa using h
      rw [if_pos h]
    all_goals have h : o ≠ 0 := by simpa using h
    · have h1 : o = 1 := by simpa using h1
      rw [if_neg h, decide_eq_true h1, Bool.true_and]
    · have h1 : o ≠ 1 := by simpa using h1
      rw [if_neg h, decide_eq_false h1, Bool.false_and]
  · exact hF.elim


noncomputable def rone14Cs : List (FuncId × Sx.Spec) := [(31, genSpec [none] erightF),
  (32, genSpec [pRefS, none] rinsert12F),
  (33, genSpec [pRefS, none] rinsert13F),
  (34, genSpec [none, none] ralike14F)]

theorem rone14_run (o : Int) (l : List Sl) (i : Int) (v w m n : BitVec 64) (k j : Int) : run rone14Cs Try.prog 11 [.int .i64 o, .vsl 0 0 (l.map slE).length, .agg [.int .i64 i, .w64 v, .w64 w, .w64 m, .w64 n, .int .i64 k, .int .i64 j]] [some ⟨false, (pRefS.getD (0, 0)).1, (pRefS.getD (0, 0)).2, true, (l.map slE)⟩] (on14H l ⟨i, v, w, m, n, k, j⟩) (yields (.many [.vrow 85 8 ((oneW o l ⟨i, v, w, m, n, k, j⟩).map wrE), .v (.int .i64 (oneE o l ⟨i, v, w, m, n, k, j⟩))])) =
    (let ai := Blk.mk true; let ag := Decidable.decide (i > (2 : Int)); let ab := List.map slE; let V := AV.w64; let Q := (1 : Int); let an := Decidable.decide (o > Q); let N := List.map wrE; let L := (0 : Int); let ao := Decidable.decide (i < L); let am := Decidable.decide (o < L); let J := En.mk v w m n k j; let H := List.length l; let E := (1 : Nat); let C := (0 : Nat); let Z := AV.ptr (C + E) C C true; let B := ai (85 : TypeId) (8 : Nat) true; let A := V (BitVec.ofInt (64 : Nat) L); let y := List.length (ab l); let ak := AV.vsl C C (y); let x := Blk.mk false (78 : TypeId) (7 : Nat) true (ab l); let u := AV.int IntKind.i64; let I := [AV.agg [u i, V v, V w, V m, V n, u k, u j]]; let Y := ai (47 : TypeId) (7 : Nat) true I; let T := [some x, some (ai (47 : Nat) (7 : Nat) true I)]; let t := List.take (y) (List.drop C (ab l)); let P := deS (t); let ah := List.length P ≤ (1000000 : Nat); let r := Sp.mk i J; let ad := u (oneE o l r); let W := on14St l r; let M := u Q = ad; let D := N (oneW o l r); let aj := List.length (D); let q := AV.any;((am = true → D = [] ∧ M ∧ True) ∧ (am = false → (an = true → D = [] ∧ M ∧ True) ∧ (an = false → (ao = true → D = [] ∧ M ∧ True) ∧ (ao = false → (ag = true → D = [] ∧ M ∧ True) ∧ (ag = false → ((!rtE J) = true → D = [] ∧ M ∧ True) ∧ ((!rtE J) = false → ((i == L) = true → ((o == L) = true → C + y ≤ y ∧ t = ab P ∧ ah ∧ (List.length (N (inW P J)) = aj ∧ some (B (N (inW P J))) = some (B (D))) ∧ u (inE P J) = ad ∧ True) ∧ ((o == L) = false → (i == L) = true ∧ C + y ≤ y ∧ t = ab P ∧ ah ∧ (List.length (N (wC P J)) = aj ∧ some (B (N (wC P J))) = some (B (D))) ∧ u (eC P J) = ad ∧ True)) ∧ ((i == L) = false → (i == L) = false ∧ (St.mk [q, ak, q, q, q, Z, q, q, AV.vsl (List.length T) C C, u L, q, q, q, q, q, q, q, q, q, q, q, q, q, q, q, q, q, q, q, q, q, q, q, q, q, q, q, q, q, q, q, q, q, q, q, q, q, q, q, q, q, q, q, q, q, q, q, q, q, q, q, q, q, q, q, q, q, q, q, q, q, q, q, q, q, q, q, q, q, q, q, q, q, q, q, q, q, q, q, q, q, q, q, q, q, q, q, q, q, q, q, q, q, q, q, q, q, q, q] (T ++ [some (B [])]) = W C ∧ Nat.le C (H)) ∧ ∀ (a : Nat), let al := at' l a; let aa := pp14R (tcW l r (a + E)); let R := tcW l r a; let K := (↑a : Int); let af := C + Int.toNat K; let U := [AV.agg [u K, AV.bool false, A, A, A, A, u L, u L]]; let S := K < (↑(y) : Int); let O := [AV.agg [u K, AV.bool true, V v, V w, V m, V n, u k, u j]]; let G := inRange IntKind.i64 (K + Q); let F := List.length R; let ae := F + E ≤ (9223372036854775807 : Nat); let X := (F + E) * (64 : Nat) ≤ (140737488355328 : Nat); let z := Sl.e al; let ac := !alE (En.mk z.1 z.2 z.3 z.4 z.5 z.6) J; let s := St.mk [q, ak, q, q, q, Z, q, q, AV.vsl (C + E + E) C (F + E), u (K + Q), q, q, q, q, q, q, q, q, q, q, q, q, q, q, q, q, q, q, q, q, q, q, q, q, q, q, q, q, q, q, q, q, q, q, q, q, q, q, q, q, q, q, q, q, q, q, q, q, q, q, q, q, q, q, q, q, q, q, q, q, q, q, q, q, q, q, q, q, q, q, q, q, q, q, q, q, q, q, q, q, q, q, q, q, q, q, q, q, q, q, q, q, q, q, q, q, q, q, q] [some x, some Y, some (ai (85 : Nat) (8 : Nat) true (aa))]; let h := St.mk [q, ak, q, q, q, Z, q, q, AV.vsl (C + E + E) C (F), u (K + Q), q, q, q, q, q, q, q, q, q, q, q, q, q, q, q, q, q, q, q, q, q, q, q, q, q, q, q, q, q, q, q, q, q, q, q, q, q, q, q, q, q, q, q, q, q, q, q, q, q, q, q, q, q, q, q, q, q, q, q, q, q, q, q, q, q, q, q, q, q, q, q, q, q, q, q, q, q, q, q, q, q, q, q, q, q, q, q, q, q, q, q, q, q, q, q, q, q, q, q] [some x, some Y, some (B (pp14R R))]; Nat.le a (H) → (Decidable.decide (S) = true → (L ≤ K ∧ S) ∧ Blk.read Proofs.Try.prog x (4 : Nat) af (C + C) = some (AV.bool al.1) ∧ ((!al.1) = true → G ∧ ∃ (b : Nat), h = W b ∧ Nat.le b (H) ∧ H + E - b < H + E - a) ∧ ((!al.1) = false → (L ≤ K ∧ S) ∧ Blk.read Proofs.Try.prog x (45 : Nat) af (C + E) = some (AV.agg [V z.1, V z.2, V z.3, V z.4, u z.5, u z.6]) ∧ (ac = true → G ∧ ∃ (c : Nat), h = W c ∧ Nat.le c (H) ∧ H + E - c < H + E - a) ∧ (ac = false → ((i == (2 : Int)) = true → (X ∧ ae ∧ C + E ≤ List.length U ∧ F ≤ List.length (N R)) ∧ List.take (F) (N R) ++ U = aa ∧ (i == Q) = false ∧ G ∧ ∃ (d : Nat), s = W d ∧ Nat.le d (H) ∧ H + E - d < H + E - a) ∧ ((i == (2 : Int)) = false → ((i == Q) = true → (L ≤ K ∧ S) ∧ Blk.read Proofs.Try.prog x (3 : Nat) af (C + E + (5 : Nat)) = some (u z.6) ∧ ((z.6 != j) = true → (X ∧ ae ∧ C + E ≤ List.length O ∧ F ≤ List.length (N R)) ∧ List.take (F) (N R) ++ O = aa ∧ G ∧ ∃ (e : Nat), s = W e ∧ Nat.le e (H) ∧ H + E - e < H + E - a) ∧ ((z.6 != j) = false → G ∧ ∃ (f : Nat), h = W f ∧ Nat.le f (H) ∧ H + E - f < H + E - a)) ∧ ((i == Q) = false → G ∧ ∃ (g : Nat), h = W g ∧ Nat.le g (H) ∧ H + E - g < H + E - a))))) ∧ (Decidable.decide (S) = false → (F = aj ∧ some (B (pp14R R)) = some (B (D))) ∧ u L = ad ∧ True))))))))) := by kernel_rfl

theorem rone14Cs_ok : ∀ e ∈ rone14Cs, SpecOK Try.prog e.1 e.2 := by
  intro e he
  simp only [rone14Cs, List.mem_cons, List.not_mem_nil, or_false] at he
  rcases he with rfl | rfl | rfl | rfl
  · exact rright8_ok
  · exact rinsert12_ok
  · exact rinsert13_ok
  · exact ralike14_ok

theorem rone14_ok : SpecOK Try.prog 11 (genSpec [none, pRefS, none] rone14F) := by
  refine genSpec_ok (run_ok (l := rone14Cs) rone14Cs_ok mixed noNG) fun l R hF => ?_
  unfold rone14F at hF
  split at hF
  · rename_i o r_l i v w m n k j
    obtain ⟨hr_l, hl, hF⟩ := hF
    generalize deS r_l = l at hr_l hl hF
    subst hr_l
    refine ⟨_, hF, rfl, (on14H l ⟨i, v, w, m, n, k, j⟩), ?_⟩
    show run rone14Cs Try.prog _ [.int .i64 o, .vsl 0 0 (l.map slE).length, .agg [.int .i64 i, .w64 v, .w64 w, .w64 m, .w64 n, .int .i64 k, .int .i64 j]] [some ⟨false, (pRefS.getD (0, 0)).1, (pRefS.getD (0, 0)).2, true, (l.map slE)⟩] _ _
    rw [rone14_run]; (conv => zeta)
    generalize hx : (⟨v, w, m, n, k, j⟩ : En) = x
    have hlm : (l.map slE).length = l.length := List.length_map _
    have lW : ∀ L : List Wr, (List.map wrE L).length = L.length := fun L => List.length_map _
    simp only [whole_row, deS_map, zLe, true_and, and_true, eq_self, hl]
    have bad : okP o ⟨i, x⟩ = false → (List.map wrE (oneW o l ⟨i, x⟩) = [] ∧ AV.int .i64 1 = AV.int .i64 (oneE o l ⟨i, x⟩)) := fun h => by
      unfold oneW oneE
      rw [h]; exact ⟨rfl, rfl⟩
    refine ⟨fun h1 => bad ?_, fun h1 => ⟨fun h2 => bad ?_, fun h2 => ⟨fun h3 => bad ?_, fun h3 => ⟨fun h4 => bad ?_, fun h4 => ⟨fun h5 => bad ?_, fun h5 => ?_⟩⟩⟩⟩⟩
    · have h1 := of_decide_eq_true h1
      unfold okP isO
      rw [decide_eq_false (show ¬ o = 0 by omega), decide_eq_false (show ¬ o = 1 by omega)]; rfl
    · have h2 := of_decide_eq_true h2
      unfold okP isO
      rw [decide_eq_false (show ¬ o = 0 by omega), decide_eq_false (show ¬ o = 1 by omega)]; rfl
    · have h3 := of_decide_eq_true h3
      unfold okP
      rw [decide_eq_false (show ¬ 0 ≤ i by omega), Bool.false_and, Bool.and_false]; rfl
    · have h4 := of_decide_eq_true h4
      unfold okP
      rw [decide_eq_false (show ¬ i ≤ 2 by omega), Bool.and_false, Bool.and_false]; rfl
    · unfold okP
      rw [show rtE x = false from notTT h5, Bool.and_false]
    have h1 := of_decide_eq_false h1
    have h2 := of_decide_eq_false h2
    have h3 := of_decide_eq_false h3
    have h4 := of_decide_eq_false h4
    have h5 := notF h5
    have hok : okP o ⟨i, x⟩ = true := okP_of (by unfold isO; rw [Bool.or_eq_true, decide_eq_true_eq, decide_eq_true_eq]; omega) h5 (by show i = 0 ∨ i = 1 ∨ i = 2; omega)
    have eW : oneW o l ⟨i, x⟩ = if i = 0 then wO o l x else tcW l ⟨i, x⟩ l.length := by unfold oneW; rw [if_pos hok]
    have eE : oneE o l ⟨i, x⟩ = if i = 0 then eO o l x else 0 := by unfold oneE; rw [if_pos hok]
    refine ⟨fun h6 => ?_, fun h6 => ?_⟩
    · have h6' : i = 0 := by simpa using h6
      rw [if_pos h6'] at eW eE
      refine ⟨fun h7 => ?_, fun h7 => ⟨h6, ?_⟩⟩
      · have h7 : o = 0 := by simpa using h7
        have e1 : wO o l x = inW l x := by unfold wO; rw [if_pos h7]
        have e2 : eO o l x = inE l x := by unfold eO; rw [if_pos h7]
        rw [eW, eE, e1, e2]
        exact ⟨⟨rfl, rfl⟩, rfl⟩
      · have h7 : o ≠ 0 := by simpa using h7
        have e1 : wO o l x = wC l x := by unfold wO; rw [if_neg h7, if_pos (by omega)]
        have e2 : eO o l x = eC l x := by unfold eO; rw [if_neg h7, if_pos (by omega)]
        rw [eW, eE, e1, e2]
        exact ⟨⟨rfl, rfl⟩, rfl⟩
    have h6' : i ≠ 0 := by simpa using h6
    rw [if_neg h6'] at eW eE
    refine ⟨h6, ⟨by unfold on14St; rw [← hx]; rfl, Nat.zero_le _⟩, ?_⟩
    intro p (hp0 : p ≤ l.length)
    refine ⟨fun hlt => ?_, fun hge => ?_⟩
    · have hp : p < l.length := by have := of_decide_eq_true hlt; omega
      have B : 0 ≤ (p : Int) ∧ (p : Int) < ((l.map slE).length : Int) := by omega
      have i1 : inRange .i64 ((p : Int) + 1) := inR (by omega) (by omega)
      have tcl := tcW_length l ⟨i, x⟩ p
      have g1 : tcW l ⟨i, x⟩ (p + 1) = tcW l ⟨i, x⟩ p ++ tchW ⟨i, x⟩ p (at' l p) := rfl
      have stay : ∀ {T : St}, (T = on14St l ⟨i, x⟩ (p + 1) → ∃ p' : Nat, T = on14St l ⟨i, x⟩ p' ∧ Nat.le p' l.length ∧ l.length + 1 - p' < l.length + 1 - p) := fun h => ⟨p + 1, h, hp, by omega⟩
      have none : tchW ⟨i, x⟩ p (at' l p) = [] → tcW l ⟨i, x⟩ (p + 1) = tcW l ⟨i, x⟩ p := fun h => by rw [g1, h, List.append_nil]
      have app : ∀ w : Wr, tchW ⟨i, x⟩ p (at' l p) = [w] → List.take (tcW l ⟨i, x⟩ p).length (List.map wrE (tcW l ⟨i, x⟩ p)) ++ [wrE w] = pp14R (tcW l ⟨i, x⟩ (p + 1)) := fun w h => by
        rw [List.take_of_length_le (by rw [lW]; exact Nat.le_refl _), g1, h]
        show _ = List.map wrE _
        rw [List.map_append]; rfl
      refine ⟨B, read_rows B.1 B.2 (sl_ok _), fun ho => ⟨i1, stay ?_⟩, fun ho => ⟨B, read_rows B.1 B.2 (rsl_ent _), fun ha => ⟨i1, stay ?_⟩, fun ha => ?_⟩⟩
      · have ho : (at' l p).ok = false := notTT ho
        unfold on14St
        rw [none (by unfold tchW; rw [ho]; rfl), ← hx]; rfl
      · have ha : alE (at' l p).e x = false := notTT ha
        unfold on14St
        rw [none (by unfold tchW; rw [show alE (at' l p).e (Sp.mk i x).e = false from ha, Bool.and_false]; rfl), ← hx]; rfl
      have ho : (at' l p).ok = true := notF ho
      have ha : alE (at' l p).e x = true := notF ha
      have hc : tchW ⟨i, x⟩ p (at' l p) = if i = 2 then [⟨p, zS⟩] else if i = 1 ∧ (at' l p).e.act ≠ x.act then [⟨p, ⟨true, x⟩⟩] else [] := by
        unfold tchW
        rw [ho, show alE (at' l p).e (Sp.mk i x).e = true from ha]; rfl
      have grow : ∀ w : Wr, tchW ⟨i, x⟩ p (at' l p) = [w] → (tcW l ⟨i, x⟩ (p + 1)).length = (tcW l ⟨i, x⟩ p).length + 1 := fun w h => by rw [g1, h, List.length_append]; rfl
      refine ⟨fun h7 => ?_, fun h7 => ⟨fun h8 => ⟨B, read_rows B.1 B.2 (sl_act _), fun h9 => ?_, fun h9 => ⟨i1, stay ?_⟩⟩, fun h8 => ⟨i1, stay ?_⟩⟩⟩
      · have h7 : i = 2 := by simpa using h7
        rw [if_pos h7] at hc
        refine ⟨⟨by omega, by omega, Nat.le_refl _, by rw [lW]; exact Nat.le_refl _⟩, app _ hc, by simp; omega, i1, stay ?_⟩
        unfold on14St
        rw [grow _ hc, ← hx]; rfl
      · have h7 : i ≠ 2 := by simpa using h7
        have h8 : i = 1 := by simpa using h8
        have h9 : (at' l p).e.act ≠ x.act := by rw [← hx]; simpa using h9
        rw [if_neg h7, if_pos ⟨h8, h9⟩] at hc
        refine ⟨⟨by omega, by omega, Nat.le_refl _, by rw [lW]; exact Nat.le_refl _⟩, by rw [← app _ hc, ← hx]; rfl, i1, stay ?_⟩
        unfold on14St
        rw [grow _ hc, ← hx]; rfl
      · have h7 : i ≠ 2 := by simpa using h7
        have h9 : (at' l p).e.act = x.act := by rw [← hx]; simpa using h9
        rw [if_neg h7, if_neg fun h => h.2 h9] at hc
        unfold on14St
        rw [none hc, ← hx]; rfl
      · have h7 : i ≠ 2 := by simpa using h7
        have h8 : i ≠ 1 := by simpa using h8
        rw [if_neg h7, if_neg fun h => h8 h.1] at hc
        unfold on14St
        rw [none hc, ← hx]; rfl
    · have hp : p = l.length := by have := of_decide_eq_false hge; omega
      subst hp
      rw [eW, eE, lW]
      exact ⟨⟨rfl, rfl⟩, rfl⟩
  · exact hF.elim


end Go.Proofs.Ytcabofadpheomaa.L1
end

section
/-
  Layer 14: what the contracts of the program's calls say.
-/
namespace Go.Proofs.Ytcabofadpheomaa.L1
open Go.Sx Go.Sx.M

def gorder14F : List Arg → (Res → Prop) → Prop
  | [.v (.int .i64 o)], R => R (.v (.bool (isO o)))
  | _, _ => False

def gkept14F : List Arg → (Res → Prop) → Prop
  | [.v (.int .i64 o), .row r_l], R => r_l = (deS r_l).map slE ∧ (deS r_l).length ≤ 1000000 ∧ R (.v (.bool (kpO o (deS r_l))))
  | _, _ => False

def ginsert14F : List Arg → (Res → Prop) → Prop
  | [.v (.int .i64 o), .row r_l, .v (.agg [.w64 v, .w64 w, .w64 m, .w64 n, .int .i64 k, .int .i64 j])], R => r_l = (deS r_l).map slE ∧ (deS r_l).length ≤ 1000000 ∧
      R (.many [.vrow 68 8 ((wO o (deS r_l) ⟨v, w, m, n, k, j⟩).map wrE), .v (.int .i64 (eO o (deS r_l) ⟨v, w, m, n, k, j⟩))])
  | _, _ => False

def gone14F : List Arg → (Res → Prop) → Prop
  | [.v (.int .i64 o), .row r_l, .v (.agg [.int .i64 i, .w64 v, .w64 w, .w64 m, .w64 n, .int .i64 k, .int .i64 j])], R => r_l = (deS r_l).map slE ∧ (deS r_l).length ≤ 1000000 ∧
      R (.many [.vrow 68 8 ((oneW o (deS r_l) ⟨i, v, w, m, n, k, j⟩).map wrE), .v (.int .i64 (oneE o (deS r_l) ⟨i, v, w, m, n, k, j⟩))])
  | _, _ => False

def gall14F : List Arg → (Res → Prop) → Prop
  | [.v (.int .i64 o), .row r_l, .row r_s], R => r_l = (deS r_l).map slE ∧ (deS r_l).length ≤ 1000 ∧ r_s = (deSp r_s).map spE ∧ (deSp r_s).length ≤ 1000 ∧
      R (.many [.vrow 68 8 ((allW o (deSp r_s) (deS r_l)).map wrE), .v (.int .i64 (allE o (deSp r_s) (deS r_l)))])
  | _, _ => False

def gtwins14F : List Arg → (Res → Prop) → Prop
  | [.row r_l], R => r_l = (deS r_l).map slE ∧ (deS r_l).length ≤ 1000000 ∧ R (.vrow 68 8 ((twW (deS r_l) (deS r_l).length).map wrE))
  | _, _ => False

end Go.Proofs.Ytcabofadpheomaa.L1
end

section
/-
  Layer 14: what the document fixes of one entry in two slots.
-/
namespace Go.Proofs.Ytcabofadpheomaa.L1
open Go.Sx Go.Sx.M Go.RowKit

noncomputable def awake14Cs : List (FuncId × Sx.Spec) := [(28, genSpec [none, none] eofF), (10, genSpec [none, pSl, none] gone14F), (22, genSpec [pSl] gtwins14F), (17, genSpec [none] gorder14F), (15, genSpec [none, pSl] gkept14F)]

def aw14H : List Hint := [.br true, .br true, .cell (wrE ⟨1, zS⟩), .br true, .cell (wrE ⟨2, zS⟩), .br true, .br true, .cell (.int .i64 2), .br true, .br true, .br true]

theorem awake14_run (_u : Unit) : run awake14Cs Try.prog 8 [] [] aw14H (comesTo (.bool true)) =
    (let s := AV.w64; let r := AV.bool false; let p := (2 : Int); let o := (0 : Nat); let l := (1 : Int); let k := Blk.mk true (68 : TypeId) (8 : Nat) true; let g := AV.int IntKind.i64; let f := (0 : Int); let n := mkW (f - (64 : Int)); let d := BitVec.ofInt (64 : Nat) f; let h := AV.agg [AV.bool true, s (d &&& mkW f), s (d &&& n), s (mkW f), s (n), g (clamp f), g l]; let c := BitVec.ofNat (64 : Nat) o; let j := false == false && (c == d && c == d && (c == d && c == d) && (f == f && f == f)); let i := s (c); let e := AV.agg [g (↑(nat_lit 2) : Int), r, i, i, i, i, g f, g f]; let t := (↑(List.length [e]) : Int); let b := [AV.agg [g (↑(nat_lit 1) : Int), r, i, i, i, i, g f, g f], e]; let q := (↑(List.length b) : Int); let a := [AV.agg [r, s (d), s (d), s (d), s (d), g f, g f], h, h]; let m := List.length (deS a) ≤ (1000000 : Nat);(a = a ∧ m ∧ a = a ∧ m ∧ (oneE l (deS a) (Sp.mk p (En.mk (d &&& mkW f) (d &&& n) (mkW f) (n) (clamp f) l)) == f) = true ∧ (q == p) = true ∧ (f ≤ f ∧ f < q) ∧ Blk.read Proofs.Try.prog (k b) (68 : Nat) (o + Int.toNat f) o = some (AV.agg [g l, r, i, i, i, i, g f, g f]) ∧ (l == l && j) = true ∧ (f ≤ l ∧ l < q) ∧ Blk.read Proofs.Try.prog (k b) (68 : Nat) (o + Int.toNat l) o = some (AV.agg [g p, r, i, i, i, i, g f, g f]) ∧ (p == p && j) = true ∧ (t == l) = true ∧ (f ≤ f ∧ f < t) ∧ Blk.read Proofs.Try.prog (k [e]) (3 : Nat) (o + Int.toNat f) (o + o) = some (g p) ∧ (p == p) = true ∧ isO l = true ∧ a = a ∧ m ∧ AV.bool (kpO f (deS a)) = AV.bool true)) := by kernel_rfl

theorem awake14_law : ∃ hs, run awake14Cs Try.prog 8 [] [] hs (comesTo (.bool true)) := by
  refine ⟨aw14H, ?_⟩
  rw [awake14_run ()]; (conv => zeta)
  repeat' first
    | apply And.intro
    | intro _
  all_goals first
    | kernel_rfl
    | exact Nat.le_of_ble_eq_true (by kernel_rfl)
    | decide

theorem awake14_of (h : ∀ e ∈ awake14Cs, SpecOK Try.prog e.1 e.2) : SpecOK Try.prog 8 awakeSpec := by
  obtain ⟨hs, r⟩ := awake14_law
  exact awake_ok (run_ok (l := awake14Cs) h mixed noNG) r

end Go.Proofs.Ytcabofadpheomaa.L1
end

section
/-
  Layer 14: the document's All, Twins; the law's steps.
-/
namespace Go.Proofs.Ytcabofadpheomaa.L1
open Go.Sx Go.Sx.M Go.RowKit

/-- Twins. -/
def ti14T (l : List Sl) (i k : Nat) : Bool := (List.range k).any fun j => (at' l i).ok && (at' l j).ok && alE (at' l i).e (at' l j).e
def tw14St (l : List Sl) (i : Nat) : St := ⟨[.vsl 0 0 (l.map slE).length, .any, .any, .vsl 1 0 (twW l i).length, .int .i64 i, .any, .any, .any, .any, .any, .any, .any, .any, .any, .any, .any, .any, .any, .any, .any, .any, .any, .any, .any, .any, .any, .any, .any, .any, .any, .any, .any, .any, .any, .any, .any, .any, .any, .any, .any, .any, .any, .any, .any, .any, .any, .any, .any, .any, .any], [rs14R l, some ⟨true, 85, 8, true, pp14R (twW l i)⟩]⟩
def tw14M0 : Modes := ⟨[1, 0, 0, 1, 2, 0, 0, 0, 0, 0, 0, 0, 0, 0, 0, 0, 0, 0, 0, 0, 0, 0, 0, 0, 0, 0, 0, 0, 0, 0, 0, 0, 0, 0, 0, 0, 0, 0, 0, 0, 0, 0, 0, 0, 0, 0, 0, 0, 0, 0], [], [], [], [(3, 85, 8)]⟩
def tw14M : Modes := ⟨[1, 0, 0, 1, 1, 0, 0, 0, 0, 0, 0, 0, 0, 0, 0, 0, 0, 0, 0, 0, 0, 0, 0, 0, 0, 0, 0, 0, 0, 0, 0, 0, 0, 0, 0, 0, 0, 0, 0, 0, 0, 0, 0, 0, 0, 0, 0, 0, 0, 0], [], [], [], []⟩
def tw14M' : Modes := ⟨[0, 0, 0, 1, 0, 0, 0, 0, 0, 0, 0, 0, 0, 0, 0, 0, 0, 0, 0, 0, 0, 0, 0, 0, 0, 0, 0, 0, 0, 0, 0, 0, 0, 0, 0, 0, 0, 0, 0, 0, 0, 0, 0, 0, 0, 0, 0, 0, 0, 0], [], [], [], []⟩
def tv14St (l : List Sl) (i k : Nat) : St := ⟨[.vsl 0 0 (l.map slE).length, .any, .any, .vsl 1 0 (twW l i).length, .int .i64 i, .bool (ti14T l i k), .int .i64 k, .any, .any, .any, .any, .any, .any, .any, .any, .any, .any, .any, .any, .any, .any, .any, .any, .any, .any, .any, .any, .any, .any, .any, .any, .any, .any, .any, .any, .any, .any, .any, .any, .any, .any, .any, .any, .any, .any, .any, .any, .any, .any, .any], [rs14R l, some ⟨true, 85, 8, true, pp14R (twW l i)⟩]⟩
def tv14M0 : Modes := ⟨[1, 0, 0, 1, 1, 2, 2, 0, 0, 0, 0, 0, 0, 0, 0, 0, 0, 0, 0, 0, 0, 0, 0, 0, 0, 0, 0, 0, 0, 0, 0, 0, 0, 0, 0, 0, 0, 0, 0, 0, 0, 0, 0, 0, 0, 0, 0, 0, 0, 0], [], [], [], []⟩
def tv14M : Modes := ⟨[1, 0, 0, 1, 1, 2, 1, 0, 0, 0, 0, 0, 0, 0, 0, 0, 0, 0, 0, 0, 0, 0, 0, 0, 0, 0, 0, 0, 0, 0, 0, 0, 0, 0, 0, 0, 0, 0, 0, 0, 0, 0, 0, 0, 0, 0, 0, 0, 0, 0], [], [], [], []⟩
def tv14M' : Modes := ⟨[1, 0, 0, 1, 1, 2, 0, 0, 0, 0, 0, 0, 0, 0, 0, 0, 0, 0, 0, 0, 0, 0, 0, 0, 0, 0, 0, 0, 0, 0, 0, 0, 0, 0, 0, 0, 0, 0, 0, 0, 0, 0, 0, 0, 0, 0, 0, 0, 0, 0], [], [], [], []⟩
def tw14H (l : List Sl) : List Hint := [.linv _ 0 (tw14St l) (fun i => i ≤ l.length) (fun i => l.length + 1 - i) tw14M0 tw14M tw14M' (fun _ => []) fun i =>
  [.fork [.linv _ 0 (tv14St l i) (fun k => k ≤ i) (fun k => i + 1 - k) tv14M0 tv14M tv14M' (fun _ => [.fork [.rows (pp14R (twW l (i + 1))), .nw] [.nw]]) fun k =>
    [.fork [.dy, .cell (.bool (at' l i).ok), .fork [.dy, .cell (.bool (at' l k).ok), .fork [.dy, .cell (enE (at' l i).e), .dy, .cell (enE (at' l k).e), .fork [.nw] [.nw]] [.nw]] [.nw]] []]] []]]

/-- The law's steps. -/
def sp14R (s : List Sp) : List AV := List.map spE s
def sp14St (s : List Sp) (p : Nat) : St := ⟨[.any, .any, .any, .vsl 1 0 (s.take p).length, .any, .any, .vsl 0 0 (s.map spE).length, .int .i64 (s.map spE).length, .int .i64 p, .any, .any, .any, .any, .any, .any, .any, .any, .any, .any, .any, .any, .any, .any], [some ⟨false, 31, 7, true, s.map spE⟩, some ⟨true, 47, 7, true, sp14R (s.take p)⟩]⟩
def sp14M0 : Modes := ⟨[0, 0, 0, 1, 0, 0, 1, 1, 2, 0, 0, 0, 0, 0, 0, 0, 0, 0, 0, 0, 0, 0, 0], [], [], [], [(3, 47, 7)]⟩
def sp14M : Modes := ⟨[0, 0, 0, 1, 0, 0, 1, 1, 1, 0, 0, 0, 0, 0, 0, 0, 0, 0, 0, 0, 0, 0, 0], [], [], [], []⟩
def sp14M' : Modes := ⟨[0, 0, 0, 1, 0, 0, 0, 0, 0, 0, 0, 0, 0, 0, 0, 0, 0, 0, 0, 0, 0, 0, 0], [], [], [], []⟩
def sp14H (s : List Sp) : List Hint := [.linv _ 0 (sp14St s) (fun p => p ≤ s.length) (fun p => s.length + 1 - p) sp14M0 sp14M sp14M' (fun _ => []) fun p =>
  [.fork [.dy, .cell (spE (at' s p)), .rows (sp14R (s.take (p + 1))), .nw] []]]

/-- All, of fewer than N steps. -/
def rall14F (N : Nat) : List Arg → (Res → Prop) → Prop
  | [.v (.int .i64 o), .row r_l, .row r_s], R => r_l = (deS r_l).map slE ∧ (deS r_l).length ≤ 1000 ∧ r_s = (deSp r_s).map spE ∧ ((deSp r_s).length < N ∧ (deSp r_s).length ≤ 1000) ∧
      R (.many [.vrow 85 8 ((allW o (deSp r_s) (deS r_l)).map wrE), .v (.int .i64 (allE o (deSp r_s) (deS r_l)))])
  | _, _ => False

noncomputable def rall14Cs (N : Nat) : List (FuncId × Sx.Spec) := [(11, genSpec [none, pRefS, none] rone14F), (40, genSpec [pRefS, pRefW] rapply8F), (19, genSpec [none, pRefS, pRefSp] (rall14F N))]

def rall14H (o : Int) (l : List Sl) (s : List Sp) : List Hint := [.fork [] [.cell (spE (at' s 0)), .fork [] [.nm (List.map slE (apL l (oneW o l (at' s 0)))), .fork [] [.rows (pp14R (allW o s l))]]]]

theorem sp_tail (s : List Sp) : List.take ((s.map spE).length - Int.toNat 1) (List.drop (0 + Int.toNat 1) (s.map spE)) = (s.drop 1).map spE := by
  have e : 0 + Int.toNat 1 = 1 := rfl
  have e2 : Int.toNat 1 = 1 := rfl
  rw [e, e2, ← List.map_drop, List.take_of_length_le (by rw [List.length_map, List.length_map, List.length_drop]; exact Nat.le_refl _)]

def rtwins14F : List Arg → (Res → Prop) → Prop
  | [.row r_l], R => r_l = (deS r_l).map slE ∧ (deS r_l).length ≤ 1000000 ∧ R (.vrow 85 8 ((twW (deS r_l) (deS r_l).length).map wrE))
  | _, _ => False

noncomputable def rtwins14Cs : List (FuncId × Sx.Spec) := [(34, genSpec [none, none] ralike14F)]

theorem rtwins14_run (l : List Sl) (es : List AV) : run rtwins14Cs Try.prog 23 [.vsl 0 0 (l.map slE).length] [some ⟨false, (pRefS.getD (0, 0)).1, (pRefS.getD (0, 0)).2, true, (l.map slE)⟩] (tw14H l) (yields (.vrow 85 8 es)) =
    (let M := AV.bool; let K := AV.w64; let J := inRange IntKind.i64; let G := (1 : Int); let D := (0 : Int); let C := Blk.mk true (85 : TypeId) (8 : Nat) true; let B := List.length l; let z := K (BitVec.ofInt (64 : Nat) D); let u := (1 : Nat); let r := AV.int IntKind.i64; let o := (0 : Nat); let E := AV.vsl (o + u) o; let m := List.length (List.map slE l); let H := (↑m : Int); let F := AV.vsl o o m; let k := Blk.mk false (78 : TypeId) (7 : Nat) true (List.map slE l); let i := AV.any;((St.mk [F, i, i, AV.vsl (List.length [some k]) o o, r D, i, i, i, i, i, i, i, i, i, i, i, i, i, i, i, i, i, i, i, i, i, i, i, i, i, i, i, i, i, i, i, i, i, i, i, i, i, i, i, i, i, i, i, i, i] ([some k] ++ [some (C [])]) = tw14St l o ∧ Nat.le o (B)) ∧ ∀ (a : Nat), let O := at' l a; let N := List.map wrE (twW l a); let L := tv14St l a; let x := (↑a : Int); let Q := Decidable.decide (x < H); let v := Sl.e O; let t := List.length (twW l a); let s := C (pp14R (twW l a)); let I := [some k, some s]; let n := [AV.agg [r x, M false, z, z, z, z, r D, r D]]; Nat.le a (B) → (Q = true → (St.mk [F, i, i, E (t), r x, M false, r D, i, i, i, i, i, i, i, i, i, i, i, i, i, i, i, i, i, i, i, i, i, i, i, i, i, i, i, i, i, i, i, i, i, i, i, i, i, i, i, i, i, i, i] I = L o ∧ Nat.le o a) ∧ ∀ (b : Nat), let P := at' l b; let A := (↑b : Int); let R := Decidable.decide (A < x); let y := J (A + G); let w := Sl.e P; let q := alE (En.mk v.1 v.2 v.3 v.4 v.5 v.6) (En.mk w.1 w.2 w.3 w.4 w.5 w.6); let j := St.mk [F, i, i, E (t), r x, M (ti14T l a b), r (A + G), i, i, i, i, i, i, i, i, i, i, i, i, i, i, i, i, i, i, i, i, i, i, i, i, i, i, i, i, i, i, i, i, i, i, i, i, i, i, i, i, i, i, i] I; Nat.le b a → (R = true → (D ≤ x ∧ x < H) ∧ Blk.read Proofs.Try.prog k (4 : Nat) (o + Int.toNat x) (o + o) = some (M O.1) ∧ (O.1 = true → (D ≤ A ∧ A < H) ∧ Blk.read Proofs.Try.prog k (4 : Nat) (o + Int.toNat A) (o + o) = some (M P.1) ∧ (P.1 = true → (D ≤ x ∧ x < H) ∧ Blk.read Proofs.Try.prog k (45 : Nat) (o + Int.toNat x) (o + u) = some (AV.agg [K v.1, K v.2, K v.3, K v.4, r v.5, r v.6]) ∧ (D ≤ A ∧ A < H) ∧ Blk.read Proofs.Try.prog k (45 : Nat) (o + Int.toNat A) (o + u) = some (AV.agg [K w.1, K w.2, K w.3, K w.4, r w.5, r w.6]) ∧ (q = true → y ∧ ∃ (c : Nat), St.mk [F, i, i, E (t), r x, M true, r (A + G), i, i, i, i, i, i, i, i, i, i, i, i, i, i, i, i, i, i, i, i, i, i, i, i, i, i, i, i, i, i, i, i, i, i, i, i, i, i, i, i, i, i, i] I = L c ∧ Nat.le c a ∧ a + u - c < a + u - b) ∧ (q = false → y ∧ ∃ (d : Nat), j = L d ∧ Nat.le d a ∧ a + u - d < a + u - b)) ∧ (P.1 = false → y ∧ ∃ (e : Nat), j = L e ∧ Nat.le e a ∧ a + u - e < a + u - b)) ∧ (O.1 = false → y ∧ ∃ (f : Nat), j = L f ∧ Nat.le f a ∧ a + u - f < a + u - b)) ∧ (R = false → (ti14T l a b = true → ((t + u) * (64 : Nat) ≤ (140737488355328 : Nat) ∧ t + u ≤ (9223372036854775807 : Nat) ∧ o + u ≤ List.length n ∧ t ≤ List.length N) ∧ List.take (t) N ++ n = pp14R (twW l (a + u)) ∧ J (x + G) ∧ ∃ (g : Nat), St.mk [F, i, i, E (t + u), r (x + G), i, i, i, i, i, i, i, i, i, i, i, i, i, i, i, i, i, i, i, i, i, i, i, i, i, i, i, i, i, i, i, i, i, i, i, i, i, i, i, i, i, i, i, i, i] [some k, some (Blk.mk true (85 : Nat) (8 : Nat) true (pp14R (twW l (a + u))))] = tw14St l g ∧ Nat.le g (B) ∧ B + u - g < B + u - a) ∧ (ti14T l a b = false → J (x + G) ∧ ∃ (h : Nat), St.mk [F, i, i, E (t), r (x + G), i, i, i, i, i, i, i, i, i, i, i, i, i, i, i, i, i, i, i, i, i, i, i, i, i, i, i, i, i, i, i, i, i, i, i, i, i, i, i, i, i, i, i, i, i] I = tw14St l h ∧ Nat.le h (B) ∧ B + u - h < B + u - a))) ∧ (Q = false → t = List.length es ∧ some s = some (C es)))) := by kernel_rfl

theorem rtwins14Cs_ok : ∀ e ∈ rtwins14Cs, SpecOK Try.prog e.1 e.2 := by
  intro e he
  simp only [rtwins14Cs, List.mem_cons, List.not_mem_nil, or_false] at he
  rcases he with rfl
  · exact ralike14_ok

theorem rtwins14_ok : SpecOK Try.prog 23 (genSpec [pRefS] rtwins14F) := by
  refine genSpec_ok (run_ok (l := rtwins14Cs) rtwins14Cs_ok mixed noNG) fun l R hF => ?_
  unfold rtwins14F at hF
  split at hF
  · rename_i r_l
    obtain ⟨hr_l, hl, hF⟩ := hF
    generalize deS r_l = l at hr_l hl hF
    subst hr_l
    refine ⟨_, hF, trivial, (tw14H l), ?_⟩
    show run rtwins14Cs Try.prog _ [.vsl 0 0 (l.map slE).length] [some ⟨false, (pRefS.getD (0, 0)).1, (pRefS.getD (0, 0)).2, true, (l.map slE)⟩] _ _
    rw [rtwins14_run]; (conv => zeta)
    have hlm : (l.map slE).length = l.length := List.length_map _
    have lW : ∀ L : List Wr, (List.map wrE L).length = L.length := fun L => List.length_map _
    refine ⟨⟨rfl, Nat.zero_le _⟩, ?_⟩
    intro i (hi0 : i ≤ l.length)
    have i0 : inRange .i64 ((i : Int) + 1) := inR (by omega) (by omega)
    refine ⟨fun hlt => ?_, fun hge => ?_⟩
    · have hi : i < l.length := by have := of_decide_eq_true hlt; omega
      have Bi : 0 ≤ (i : Int) ∧ (i : Int) < ((l.map slE).length : Int) := by omega
      refine ⟨⟨rfl, Nat.zero_le _⟩, ?_⟩
      intro k (hk0 : k ≤ i)
      have i1 : inRange .i64 ((k : Int) + 1) := inR (by omega) (by omega)
      refine ⟨fun hlt2 => ?_, fun hge2 => ?_⟩
      · have hk : k < i := by have := of_decide_eq_true hlt2; omega
        have Bk : 0 ≤ (k : Int) ∧ (k : Int) < ((l.map slE).length : Int) := by omega
        have nx : ti14T l i (k + 1) = (ti14T l i k || ((at' l i).ok && (at' l k).ok && alE (at' l i).e (at' l k).e)) := by
          unfold ti14T
          rw [List.range_succ, List.any_append, List.any_cons, List.any_nil, Bool.or_false]
        have go : ∀ {T : St} {b : Bool}, ((at' l i).ok && (at' l k).ok && alE (at' l i).e (at' l k).e) = b → (ti14T l i (k + 1) = (ti14T l i k || b) → T = tv14St l i (k + 1)) → ∃ p' : Nat, T = tv14St l i p' ∧ Nat.le p' i ∧ i + 1 - p' < i + 1 - k := fun hb h => ⟨k + 1, h (by rw [nx, hb]), hk, by omega⟩
        refine ⟨Bi, read_rows Bi.1 Bi.2 (sl_ok _), fun h1 => ⟨Bk, read_rows Bk.1 Bk.2 (sl_ok _), fun h2 => ⟨Bi, read_rows Bi.1 Bi.2 (rsl_ent _), Bk, read_rows Bk.1 Bk.2 (rsl_ent _), fun h3 => ⟨i1, go (b := true) ?_ fun h => ?_⟩, fun h3 => ⟨i1, go (b := false) ?_ fun h => ?_⟩⟩, fun h2 => ⟨i1, go (b := false) ?_ fun h => ?_⟩⟩, fun h1 => ⟨i1, go (b := false) ?_ fun h => ?_⟩⟩
        · rw [show (at' l i).ok = true from h1, show (at' l k).ok = true from h2, show alE (at' l i).e (at' l k).e = true from h3]; rfl
        · rw [Bool.or_true] at h
          unfold tv14St
          rw [h]; rfl
        · rw [show alE (at' l i).e (at' l k).e = false from h3, Bool.and_false]
        · rw [Bool.or_false] at h
          unfold tv14St
          rw [h]; rfl
        · rw [show (at' l k).ok = false from h2, Bool.and_false, Bool.false_and]
        · rw [Bool.or_false] at h
          unfold tv14St
          rw [h]; rfl
        · rw [show (at' l i).ok = false from h1, Bool.false_and, Bool.false_and]
        · rw [Bool.or_false] at h
          unfold tv14St
          rw [h]; rfl
      · have hk : k = i := by have := of_decide_eq_false hge2; omega
        subst hk
        have et : ti14T l k k = isT l k := rfl
        have tl := twW_length l k
        have g1 : twW l (k + 1) = if isT l k then twW l k ++ [⟨k, zS⟩] else twW l k := rfl
        rw [et]
        refine ⟨fun h => ?_, fun h => ⟨i0, k + 1, ?_, hi, by omega⟩⟩
        · rw [if_pos h] at g1
          refine ⟨⟨by omega, by omega, Nat.le_refl _, by rw [lW]; exact Nat.le_refl _⟩, ?_, i0, k + 1, ?_, hi, by omega⟩
          · rw [List.take_of_length_le (by rw [lW]; exact Nat.le_refl _), g1]
            show _ = List.map wrE _
            rw [List.map_append]; rfl
          · unfold tw14St
            rw [g1, List.length_append]; rfl
        · rw [if_neg (by rw [h]; simp)] at g1
          unfold tw14St
          rw [g1]; rfl
    · have hi : i = l.length := by have := of_decide_eq_false hge; omega
      subst hi
      exact ⟨(lW _).symm, rfl⟩
  · exact hF.elim


def steps14F : List Arg → (Res → Prop) → Prop
  | [.row r_s], R => r_s = (deSp r_s).map spE ∧ (deSp r_s).length ≤ 1000000 ∧ R (.vrow 47 7 ((deSp r_s).map spE))
  | _, _ => False

noncomputable def steps14Cs : List (FuncId × Sx.Spec) := [(21, genSpec [none] one5F)]

theorem steps14_run (s : List Sp) (es : List AV) : run steps14Cs Try.prog 12 [.vsl 0 0 (s.map spE).length] [some ⟨false, (pSp.getD (0, 0)).1, (pSp.getD (0, 0)).2, true, (s.map spE)⟩] (sp14H s) (yields (.vrow 47 7 es)) =
    (let r := List.map spE; let n := List.length s; let l := (1 : Nat); let j := Blk.mk true (47 : TypeId) (7 : Nat) true; let i := (0 : Nat); let h := AV.int IntKind.i64; let f := AV.any; let e := List.length (r s); let q := (↑e : Int); let d := Blk.mk false (31 : TypeId) (7 : Nat) true (r s);((St.mk [f, f, f, AV.vsl (List.length [some d]) i i, f, f, AV.vsl i i e, h q, h (0 : Int), f, f, f, f, f, f, f, f, f, f, f, f, f, f] ([some d] ++ [some (j [])]) = sp14St s i ∧ Nat.le i (n)) ∧ ∀ (a : Nat), let t := sp14R (List.take (a + l) s); let o := List.take a s; let m := (↑a : Int); let u := Decidable.decide (m < q); let k := Sp.e (at' s a); let g := List.length o; let c := AV.agg [h (at' s a).1, AV.w64 k.1, AV.w64 k.2, AV.w64 k.3, AV.w64 k.4, h k.5, h k.6]; Nat.le a (n) → (u = true → ((0 : Int) ≤ m ∧ m < q) ∧ Blk.read Proofs.Try.prog d (31 : Nat) (i + Int.toNat m) i = some (c) ∧ ((g + l) * (56 : Nat) ≤ (140737488355328 : Nat) ∧ g + l ≤ (9223372036854775807 : Nat) ∧ i + l ≤ List.length [c] ∧ g ≤ List.length (r o)) ∧ List.take (g) (r o) ++ [c] = t ∧ inRange IntKind.i64 (m + (1 : Int)) ∧ ∃ (b : Nat), St.mk [f, f, f, AV.vsl (i + l) i (g + l), f, f, AV.vsl i i e, h q, h (m + (1 : Int)), f, f, f, f, f, f, f, f, f, f, f, f, f, f] [some d, some (Blk.mk true (47 : Nat) (7 : Nat) true (t))] = sp14St s b ∧ Nat.le b (n) ∧ n + l - b < n + l - a) ∧ (u = false → g = List.length es ∧ some (j (sp14R o)) = some (j es)))) := by kernel_rfl

theorem steps14Cs_ok : ∀ e ∈ steps14Cs, SpecOK Try.prog e.1 e.2 := by
  intro e he
  simp only [steps14Cs, List.mem_cons, List.not_mem_nil, or_false] at he
  rcases he with rfl
  · exact one5_ok

theorem steps14_ok : SpecOK Try.prog 12 (genSpec [pSp] steps14F) := by
  refine genSpec_ok (run_ok (l := steps14Cs) steps14Cs_ok mixed noNG) fun l R hF => ?_
  unfold steps14F at hF
  split at hF
  · rename_i r_s
    obtain ⟨hr_s, hs, hF⟩ := hF
    generalize deSp r_s = s at hr_s hs hF
    subst hr_s
    refine ⟨_, hF, trivial, (sp14H s), ?_⟩
    show run steps14Cs Try.prog _ [.vsl 0 0 (s.map spE).length] [some ⟨false, (pSp.getD (0, 0)).1, (pSp.getD (0, 0)).2, true, (s.map spE)⟩] _ _
    rw [steps14_run]; (conv => zeta)
    have hlm : (s.map spE).length = s.length := List.length_map _
    have lS : ∀ L : List Sp, (List.map spE L).length = L.length := fun L => List.length_map _
    refine ⟨⟨rfl, Nat.zero_le _⟩, ?_⟩
    intro p (hp0 : p ≤ s.length)
    refine ⟨fun hlt => ?_, fun hge => ?_⟩
    · have hp : p < s.length := by have := of_decide_eq_true hlt; omega
      have B : 0 ≤ (p : Int) ∧ (p : Int) < ((s.map spE).length : Int) := by omega
      have ht : (s.take p).length = p := by rw [List.length_take]; omega
      have g1 : s.take (p + 1) = s.take p ++ [at' s p] := take_one hp
      refine ⟨B, read_rows B.1 B.2 (sp_whole _), ⟨by omega, by omega, Nat.le_refl _, by rw [lS]; exact Nat.le_refl _⟩, ?_, inR (by omega) (by omega), p + 1, ?_, hp, by omega⟩
      · rw [List.take_of_length_le (by rw [lS]; exact Nat.le_refl _), g1]
        show _ = List.map spE _
        rw [List.map_append]; rfl
      · unfold sp14St
        rw [g1, List.length_append]; rfl
    · have hp : p = s.length := by have := of_decide_eq_false hge; omega
      subst hp
      rw [List.take_length]
      exact ⟨(lS _).symm, rfl⟩
  · exact hF.elim


theorem rall14_run (N : Nat) (o : Int) (l : List Sl) (s : List Sp) : evFn (run (rall14Cs N) Try.prog) Try.prog 19 [.int .i64 o, .vsl 0 0 (l.map slE).length, .vsl 1 0 (s.map spE).length] [some ⟨false, 78, 7, true, l.map slE⟩, some ⟨false, 47, 7, true, s.map spE⟩] (rall14H o l s) (yields (.many [.vrow 85 8 ((allW o s l).map wrE), .v (.int .i64 (allE o s l))])) =
    (let I := allW o s l; let F := List.map spE s; let B := List.map wrE; let z := Int.toNat (1 : Int); let t := (0 : Int); let r := B I; let q := (0 : Nat); let m := List.length F; let J := (↑(m) : Int); let j := AV.int IntKind.i64; let E := j (allE o s l); let i := List.map slE; let x := List.length (i l); let e := List.take (m - z) (List.drop (q + z) F); let A := deSp (e); let d := at' s q; let C := i (apL l (oneW o l d)); let p := List.length (C); let n := Sp.e d; let g := Sp.mk d.1 (En.mk n.1 n.2 n.3 n.4 n.5 n.6); let f := List.take (p) (List.drop q (C)); let D := deS (f); let c := List.take (x) (List.drop q (i l)); let w := deS (c); let G := List.length w ≤ (1000000 : Nat); let k := B (oneW o w (Sp.mk (Sp.k d) (En.mk (En.v n) (En.w n) (En.m n) (En.n n) (En.len n) (En.act n)))); let b := B (allW o A D); let y := List.length b; let a := B (oneW o w g); let u := List.length a; let h := List.take (u) (List.drop q a); let H := deW (h);(((J == t) = true → r = [] ∧ j t = E ∧ True) ∧ ((J == t) = false → (t ≤ t ∧ t < J) ∧ Blk.read Proofs.Try.prog (Blk.mk false (47 : TypeId) (7 : Nat) true F) (47 : Nat) (q + Int.toNat t) q = some (AV.agg [j d.1, AV.w64 n.1, AV.w64 n.2, AV.w64 n.3, AV.w64 n.4, j n.5, j n.6]) ∧ q + x ≤ x ∧ c = i w ∧ G ∧ ((oneE o w g != t) = true → r = [] ∧ j (oneE o w g) = E ∧ True) ∧ ((oneE o w g != t) = false → (t ≤ (1 : Int) ∧ (1 : Int) < (↑(m + (1 : Nat)) : Int)) ∧ q + x ≤ x ∧ q + u ≤ u ∧ c = i w ∧ G ∧ h = B H ∧ List.length H ≤ (1000000 : Nat) ∧ (i (apL w H) = C ∧ List.length (i (apL w H)) = p) ∧ q + p ≤ p ∧ q + z + (m - z) ≤ m ∧ f = i D ∧ List.length D ≤ (1000 : Nat) ∧ e = List.map spE A ∧ (List.length A < N ∧ List.length A ≤ (1000 : Nat)) ∧ ((allE o A D != t) = true → r = [] ∧ j (allE o A D) = E ∧ True) ∧ ((allE o A D != t) = false → ((u + y) * (64 : Nat) ≤ (140737488355328 : Nat) ∧ u + y ≤ (9223372036854775807 : Nat) ∧ q + y ≤ y ∧ u ≤ List.length k) ∧ List.take (u) k ++ List.take (y) (List.drop q b) = pp14R I ∧ (u + y = List.length (r) ∧ some (Blk.mk true (85 : Nat) (8 : Nat) true (pp14R I)) = some (Blk.mk true (85 : TypeId) (8 : Nat) true (r))) ∧ j t = E ∧ True))))) := by kernel_rfl

theorem rall14_ok : ∀ N : Nat, SpecOK Try.prog 19 (genSpec [none, pRefS, pRefSp] (rall14F N))
  | 0 => by
    refine genSpec_ok none_ok fun args R hF => ?_
    unfold rall14F at hF
    split at hF
    · exact absurd hF.2.2.2.1.1 (Nat.not_lt_zero _)
    · exact hF.elim
  | N + 1 => by
    have hCs : ∀ e ∈ rall14Cs N, SpecOK Try.prog e.1 e.2 := by
      intro e he
      simp only [rall14Cs, List.mem_cons, List.not_mem_nil, or_false] at he
      rcases he with rfl | rfl | rfl
      · exact rone14_ok
      · exact rapply8_ok
      · exact rall14_ok N
    refine genSpec_ok (evFn_ok (run_ok (l := rall14Cs N) hCs mixed noNG) mixed.mixed noNG) fun args R hF => ?_
    unfold rall14F at hF
    split at hF
    · rename_i o r_l r_s
      obtain ⟨hr_l, hl, hr_s, ⟨hs1, hs2⟩, hR⟩ := hF
      generalize deS r_l = l at hr_l hl hR
      generalize deSp r_s = s at hr_s hs1 hs2 hR
      subst hr_l hr_s
      refine ⟨_, hR, rfl, rall14H o l s, ?_⟩
      show evFn (run (rall14Cs N) Try.prog) Try.prog _ [.int .i64 o, .vsl 0 0 (l.map slE).length, .vsl 1 0 (s.map spE).length] [some ⟨false, 78, 7, true, l.map slE⟩, some ⟨false, 47, 7, true, s.map spE⟩] _ _
      rw [rall14_run]; (conv => zeta)
      cases s with
      | nil => exact ⟨fun _ => ⟨rfl, rfl, trivial⟩, fun h => by simp at h⟩
      | cons s0 S =>
        have lW : ∀ L : List Wr, (List.map wrE L).length = L.length := fun L => List.length_map _
        have lS : (List.map spE (s0 :: S)).length = S.length + 1 := by rw [List.length_map]; rfl
        have f1 := oneW_few o l s0
        have f2 := allW_few o S (apL l (oneW o l s0))
        rw [apL_length] at f2
        rw [List.length_cons] at hs1 hs2
        have f3 : S.length * (l.length + 1) ≤ 1000 * 1001 := Nat.mul_le_mul (by omega) (by omega)
        have e0 : at' (s0 :: S) 0 = s0 := rfl
        have e1 : (s0 :: S).drop 1 = S := rfl
        simp only [sp_tail, e0, e1]
        simp only [whole_row, deS_map, deW_map, deSp_map, zLe, true_and, and_true, eq_self]
        have eE : allE o (s0 :: S) l = if oneE o l s0 = 0 then allE o S (apL l (oneW o l s0)) else oneE o l s0 := rfl
        refine ⟨fun h => ?_, fun _ => ⟨⟨Int.le_refl _, by rw [lS]; omega⟩, read_rows (k := 0) (Int.le_refl _) (by rw [lS]; omega) (rsp_whole _), by omega, fun h => ?_, fun h => ⟨⟨by omega, by rw [lS]; omega⟩, by omega, by show (oneW o l s0).length ≤ 1000000; omega, by show 1 + ((List.map spE (s0 :: S)).length - 1) ≤ _; rw [lS]; omega, by rw [apL_length]; exact hl, ⟨by omega, by omega⟩, fun h2 => ?_, fun h2 => ?_⟩⟩⟩
        · rw [lS] at h
          have : ((S.length + 1 : Nat) : Int) = 0 := by simpa using h
          omega
        · have h : oneE o l s0 ≠ 0 := by simpa using h
          have ea : allE o (s0 :: S) l = oneE o l s0 := by rw [eE, if_neg h]
          rw [ea, allW_err (by rw [ea]; exact h)]
          exact ⟨rfl, rfl⟩
        all_goals
          have h : oneE o l s0 = 0 := by have h' := h; simp at h'; exact h'
          have ea : allE o (s0 :: S) l = allE o S (apL l (oneW o l s0)) := by rw [eE, if_pos h]
        · have h2 : allE o S (apL l (oneW o l s0)) ≠ 0 := by simpa using h2
          rw [ea, allW_err (by rw [ea]; exact h2)]
          exact ⟨rfl, rfl⟩
        · have h2 : allE o S (apL l (oneW o l s0)) = 0 := by have h' := h2; simp at h'; exact h'
          have ew : allW o (s0 :: S) l = oneW o l s0 ++ allW o S (apL l (oneW o l s0)) := by rw [allW, if_pos ⟨h, h2⟩]
          rw [ea, h2, ew]
          have et : ∀ L : List Wr, List.take (List.map wrE L).length (List.map wrE L) = List.map wrE L := fun L => List.take_length
          refine ⟨⟨by show ((List.map wrE (oneW o l s0)).length + (List.map wrE _).length) * 64 ≤ _; rw [lW, lW]; omega, by show (List.map wrE (oneW o l s0)).length + (List.map wrE _).length ≤ _; rw [lW, lW]; omega, Nat.le_refl _⟩, ?_, ⟨?_, rfl⟩, rfl⟩
          · show List.take (List.map wrE (oneW o l s0)).length (List.map wrE (oneW o l s0)) ++ _ = List.map wrE _
            rw [et, List.map_append]
          · show (List.map wrE (oneW o l s0)).length + (List.map wrE _).length = _
            rw [lW, lW, lW, List.length_append]
    · exact hF.elim

end Go.Proofs.Ytcabofadpheomaa.L1
end

section
/-
  Layer 14: the laws' list.
-/
namespace Go.Proofs.Ytcabofadpheomaa.L1
open Go.Sx Go.Sx.M Go.RowKit

theorem Sp_dec (cs : List Value) (h : fitsAll [.int .i64, .int .u64, .int .u64, .int .u64, .int .u64, .int .i64, .int .i64] cs) : ∃ x : Sp, (spE x).cells.length = 7 ∧ (spE x).sound = true ∧ AVRs [] (spE x).cells cs := by
  obtain ⟨y0, l0, rfl, e0, g⟩ := fits_cons h
  obtain ⟨n, rfl, _⟩ := e0
  obtain ⟨x, _, _, hx⟩ := En_dec _ g
  exact ⟨⟨n, x⟩, rfl, rfl, .cons (.int _ _) hx⟩

noncomputable def l14Cs : List (FuncId × Sx.Spec) := [(8, awakeSpec), (9, genSpec [pSl] of8F), (14, genSpec [pSl, pRefS] same8F), (21, genSpec [none] one5F), (13, genSpec [pWr, pRefW] writes12F), (12, genSpec [pSp] steps14F),
  (10, genSpec [none, pSl, none] gone14F), (18, genSpec [none, pSl, pSp] gall14F), (20, genSpec [none, pSl, none] ginsert14F), (15, genSpec [none, pSl] gkept14F), (17, genSpec [none] gorder14F), (22, genSpec [pSl] gtwins14F),
  (11, genSpec [none, pRefS, none] rone14F), (19, genSpec [none, pRefS, pRefSp] (rall14F 1001)), (16, genSpec [none, pRefS] rkept14F), (23, genSpec [pRefS] rtwins14F),
  (24, genSpec [pSl, pWr] gapply8F), (25, genSpec [pSl, none] gtell8F), (26, genSpec [none] erightF), (27, genSpec [none, none] ealikeF)]

end Go.Proofs.Ytcabofadpheomaa.L1
end

