/-
  Texts in one: L13A L13B L13C L13D.
-/
import Derived.Test.YtcabofadpheomaaL8a
import Derived.Test.YtcabofadpheomaaMa

section
/-
  Layer 13: the document's Gap, end.
-/
namespace Go.Proofs.Ytcabofadpheomaa.L1
open Go.Sx Go.Sx.M

def rs13R (l : List Sl) : Option Blk := some ⟨false, 78, 7, true, l.map slE⟩
def ex13R (x : En) : Option Blk := some ⟨true, 45, 6, true, [enE x]⟩

/-- Gap. -/
def ga13St (l : List Sl) (x : En) (i : Nat) : St := ⟨[.vsl 0 0 (l.map slE).length, .any, .any, .ptr 1 0 0 true, .any, .any, .int .i64 (gpP l (bfS x) i), .int .i64 (l.map slE).length, .int .i64 i, .any, .any, .any, .any, .any, .any, .any, .any, .any, .any, .any, .any, .any, .any, .any, .any, .any, .any, .any, .any, .any, .any, .any, .any, .any, .any, .any, .any, .any, .any, .any, .any, .any, .any, .any, .any, .any, .any, .any, .any, .any, .any, .any, .any, .any, .any, .any, .any, .any], [rs13R l, ex13R x]⟩
def ga13M0 : Modes := ⟨[1, 0, 0, 1, 0, 0, 2, 1, 2, 0, 0, 0, 0, 0, 0, 0, 0, 0, 0, 0, 0, 0, 0, 0, 0, 0, 0, 0, 0, 0, 0, 0, 0, 0, 0, 0, 0, 0, 0, 0, 0, 0, 0, 0, 0, 0, 0, 0, 0, 0, 0, 0, 0, 0, 0, 0, 0, 0], [], [], [], []⟩
def ga13M : Modes := ⟨[1, 0, 0, 1, 0, 0, 1, 1, 1, 0, 0, 0, 0, 0, 0, 0, 0, 0, 0, 0, 0, 0, 0, 0, 0, 0, 0, 0, 0, 0, 0, 0, 0, 0, 0, 0, 0, 0, 0, 0, 0, 0, 0, 0, 0, 0, 0, 0, 0, 0, 0, 0, 0, 0, 0, 0, 0, 0], [], [], [], []⟩
def ga13M' : Modes := ⟨[1, 0, 0, 1, 0, 0, 1, 1, 0, 0, 0, 0, 0, 0, 0, 0, 0, 0, 0, 0, 0, 0, 0, 0, 0, 0, 0, 0, 0, 0, 0, 0, 0, 0, 0, 0, 0, 0, 0, 0, 0, 0, 0, 0, 0, 0, 0, 0, 0, 0, 0, 0, 0, 0, 0, 0, 0, 0], [], [], [], []⟩
def gb13St (l : List Sl) (x : En) (d : Nat) : St := ⟨[.vsl 0 0 (l.map slE).length, .any, .any, .ptr 1 0 0 true, .any, .any, .int .i64 (gpP l (bfS x) l.length), .int .i64 (gpQ l (afS x) d), .any, .int .i64 (((l.map slE).length : Int) - 1 - d), .any, .any, .any, .any, .any, .any, .any, .any, .any, .any, .any, .any, .any, .any, .any, .any, .any, .any, .any, .any, .any, .any, .any, .any, .any, .any, .any, .any, .any, .any, .any, .any, .any, .any, .any, .any, .any, .any, .any, .any, .any, .any, .any, .any, .any, .any, .any, .any], [rs13R l, ex13R x]⟩
def gb13M0 : Modes := ⟨[1, 0, 0, 1, 0, 0, 1, 1, 0, 1, 0, 0, 0, 0, 0, 0, 0, 0, 0, 0, 0, 0, 0, 0, 0, 0, 0, 0, 0, 0, 0, 0, 0, 0, 0, 0, 0, 0, 0, 0, 0, 0, 0, 0, 0, 0, 0, 0, 0, 0, 0, 0, 0, 0, 0, 0, 0, 0], [], [], [], []⟩
def gb13M' : Modes := ⟨[0, 0, 0, 0, 0, 0, 1, 1, 0, 0, 0, 0, 0, 0, 0, 0, 0, 0, 0, 0, 0, 0, 0, 0, 0, 0, 0, 0, 0, 0, 0, 0, 0, 0, 0, 0, 0, 0, 0, 0, 0, 0, 0, 0, 0, 0, 0, 0, 0, 0, 0, 0, 0, 0, 0, 0, 0, 0], [], [], [], []⟩
def gb13X (l : List Sl) (d : Nat) : Sl := at' l (l.length - 1 - d)
def ga13H (l : List Sl) (x : En) : List Hint := [.linv _ 0 (ga13St l x) (fun i => i ≤ l.length) (fun i => l.length + 1 - i) ga13M0 ga13M ga13M' (fun _ => []) fun i =>
    [.fork [.dy, .cell (.bool (at' l i).ok), .fork [.dy, .cell (enE (at' l i).e), .fork [.nw, .nw] [.nw]] [.nw]] []],
  .nw, .linv _ 0 (gb13St l x) (fun d => d ≤ l.length) (fun d => l.length + 1 - d) gb13M0 gb13M0 gb13M' (fun _ => []) fun d =>
    [.fork [.dy, .cell (.bool (gb13X l d).ok), .fork [.dy, .cell (enE (gb13X l d).e), .fork [.nw] [.nw]] [.nw]] []]]

def rgap13F : List Arg → (Res → Prop) → Prop
  | [.row r_l, .v (.agg [.w64 v, .w64 w, .w64 m, .w64 n, .int .i64 k, .int .i64 j])], R => r_l = (deS r_l).map slE ∧ (deS r_l).length ≤ 1000000 ∧ R (.v (.tuple [.int .i64 (gfC (deS r_l) ⟨v, w, m, n, k, j⟩), .int .i64 (gtC (deS r_l) ⟨v, w, m, n, k, j⟩)]))
  | _, _ => False

theorem n_whole (k : Nat) : partOf Try.prog 3 (AV.int .i64 (k : Int)).cells 0 = some (.int .i64 k) := by kernel_rfl

/-- end. -/
def nE (k : Nat) : AV := .int .i64 k
def deN (l : List AV) : List Nat := l.map fun x => (cI x).toNat
theorem deN_map (l : List Nat) : deN (l.map nE) = l := by
  unfold deN
  rw [List.map_map]
  exact List.map_id l
def rvN (W : List Nat) : List Nat := W.reverse
def pN : Par := some (3, 1)
def wy13R (W : List Nat) : Option Blk := some ⟨false, 3, 1, true, W.map nE⟩
def wo13R (F : List Wr → List AV) (w : List Wr) : Option Blk := some ⟨true, 85, 8, true, F w⟩
def wy13 (W : List Nat) (d : Nat) : Nat := at' W (W.length - 1 - d)
theorem wy_drop {W : List Nat} {d : Nat} (h : d < W.length) : (rvN W).drop d = wy13 W d :: (rvN W).drop (d + 1) := by
  unfold rvN
  rw [List.drop_eq_getElem_cons (by rw [List.length_reverse]; exact h), List.getElem_reverse]
  unfold wy13
  rw [at_eq]

def en13St (F : List Wr → List AV) (l : List Sl) (W : List Nat) (x : En) (p : List Wr × Nat × Nat) : St := ⟨[.vsl 0 0 (l.map slE).length, .vsl 1 0 (W.map nE).length, .any, .any, .any, .any, .any, .ptr 2 0 0 true, .any, .vsl 3 0 p.1.length, .int .i64 p.2.1, .int .i64 (((W.map nE).length : Int) - 1 - p.2.2), .any, .any, .any, .any, .any, .any, .any, .any, .any, .any, .any, .any, .any, .any, .any, .any, .any, .any, .any, .any, .any, .any, .any, .any, .any, .any, .any, .any, .any, .any, .any], [rs13R l, wy13R W, ex13R x, wo13R F p.1]⟩
def en13M0 : Modes := ⟨[1, 1, 0, 0, 0, 0, 0, 1, 0, 1, 1, 1, 0, 0, 0, 0, 0, 0, 0, 0, 0, 0, 0, 0, 0, 0, 0, 0, 0, 0, 0, 0, 0, 0, 0, 0, 0, 0, 0, 0, 0, 0, 0], [], [], [], [(9, 85, 8)]⟩
def en13M : Modes := ⟨[1, 1, 0, 0, 0, 0, 0, 1, 0, 1, 1, 1, 0, 0, 0, 0, 0, 0, 0, 0, 0, 0, 0, 0, 0, 0, 0, 0, 0, 0, 0, 0, 0, 0, 0, 0, 0, 0, 0, 0, 0, 0, 0], [], [], [], []⟩
def en13M' : Modes := ⟨[0, 0, 0, 0, 0, 0, 0, 1, 0, 1, 1, 0, 0, 0, 0, 0, 0, 0, 0, 0, 0, 0, 0, 0, 0, 0, 0, 0, 0, 0, 0, 0, 0, 0, 0, 0, 0, 0, 0, 0, 0, 0, 0], [], [], [], []⟩
def en13I (l : List Sl) (W : List Nat) (f : Int) (x : En) (p : List Wr × Nat × Nat) : Prop := p.2.2 ≤ W.length ∧ p.1.length = p.2.2 ∧ p.1 ++ enW l x ((rvN W).drop p.2.2) p.2.1 = enW l x (rvN W) f.toNat
def en13H (F : List Wr → List AV) (l : List Sl) (W : List Nat) (f : Int) (x : En) : List Hint := [.nw, .linv _ ([], f.toNat, 0) (en13St F l W x) (en13I l W f x) (fun p => W.length + 1 - p.2.2) en13M0 en13M en13M' (fun _ => [.rows (F (enW l x (rvN W) f.toNat))]) fun p =>
  [.fork [.dy, .cell (nE (wy13 W p.2.2)), .dy, .cell (slE (at' l (wy13 W p.2.2))), .rows (F (p.1 ++ [⟨p.2.1, at' l (wy13 W p.2.2)⟩])), .dy, .cell (nE (wy13 W p.2.2)), .nw] []]]

noncomputable def rgap13Cs : List (FuncId × Sx.Spec) := [(62, genSpec [none, none] raboveF)]

theorem rgap13_run (l : List Sl) (v w m n : BitVec 64) (k j : Int) (r : AV) : run rgap13Cs Try.prog 54 [.vsl 0 0 (l.map slE).length, .agg [.w64 v, .w64 w, .w64 m, .w64 n, .int .i64 k, .int .i64 j]] [some ⟨false, (pRefS.getD (0, 0)).1, (pRefS.getD (0, 0)).2, true, (l.map slE)⟩] (ga13H l ⟨v, w, m, n, k, j⟩) (yields (.v r)) =
    (let T := List.map slE l; let N := (0 : Int); let K := AV.w64; let J := (1 : Nat); let G := inRange IntKind.i64; let E := (1 : Int); let B := List.length l; let z := Blk.mk false (78 : TypeId) (7 : Nat) true T; let y := (0 : Nat); let F := AV.ptr (y + J) y y true; let D := AV.vsl y y (List.length T); let x := En.mk v w m n k j; let aa := gb13St l x; let Z := ga13St l x; let s := AV.int IntKind.i64; let O := [AV.agg [K v, K w, K m, K n, s k, s j]]; let L := s (↑(gpP l (bfS x) (B)) : Int); let q := (↑(List.length T) : Int); let o := [some z, some (Blk.mk true (45 : TypeId) (6 : Nat) true O)]; let i := AV.any;((St.mk [D, i, i, F, i, i, s N, s q, s N, i, i, i, i, i, i, i, i, i, i, i, i, i, i, i, i, i, i, i, i, i, i, i, i, i, i, i, i, i, i, i, i, i, i, i, i, i, i, i, i, i, i, i, i, i, i, i, i, i] [some z, some (Blk.mk true (45 : Nat) (6 : Nat) true O)] = Z y ∧ Nat.le y (B)) ∧ ∀ (a : Nat), let ab := at' l a; let X := s (↑(gpP l (bfS x) a) : Int); let H := (↑a : Int); let ac := Decidable.decide (H < q); let R := H + E; let C := Sl.e ab; let P := abE (En.mk C.1 C.2 C.3 C.4 C.5 C.6) x; let u := St.mk [D, i, i, F, i, i, X, s q, s R, i, i, i, i, i, i, i, i, i, i, i, i, i, i, i, i, i, i, i, i, i, i, i, i, i, i, i, i, i, i, i, i, i, i, i, i, i, i, i, i, i, i, i, i, i, i, i, i, i] o; Nat.le a (B) → (ac = true → (N ≤ H ∧ H < q) ∧ Blk.read Proofs.Try.prog z (4 : Nat) (y + Int.toNat H) (y + y) = some (AV.bool ab.1) ∧ (ab.1 = true → (N ≤ H ∧ H < q) ∧ Blk.read Proofs.Try.prog z (45 : Nat) (y + Int.toNat H) (y + J) = some (AV.agg [K C.1, K C.2, K C.3, K C.4, s C.5, s C.6]) ∧ (P = true → G R ∧ G R ∧ ∃ (b : Nat), St.mk [D, i, i, F, i, i, s R, s q, s R, i, i, i, i, i, i, i, i, i, i, i, i, i, i, i, i, i, i, i, i, i, i, i, i, i, i, i, i, i, i, i, i, i, i, i, i, i, i, i, i, i, i, i, i, i, i, i, i, i] o = Z b ∧ Nat.le b (B) ∧ B + J - b < B + J - a) ∧ (P = false → G R ∧ ∃ (c : Nat), u = Z c ∧ Nat.le c (B) ∧ B + J - c < B + J - a)) ∧ (ab.1 = false → G R ∧ ∃ (d : Nat), u = Z d ∧ Nat.le d (B) ∧ B + J - d < B + J - a)) ∧ (ac = false → G (q - E) ∧ (St.mk [D, i, i, F, i, i, X, s q, i, s (q - E), i, i, i, i, i, i, i, i, i, i, i, i, i, i, i, i, i, i, i, i, i, i, i, i, i, i, i, i, i, i, i, i, i, i, i, i, i, i, i, i, i, i, i, i, i, i, i, i] o = aa y ∧ Nat.le y (B)) ∧ ∀ (e : Nat), let Y := s (↑(gpQ l (afS x) e) : Int); let V := gb13X l e; let I := (↑e : Int); let W := y + Int.toNat (q - E - I); let U := Decidable.decide (q - E - I ≥ N); let S := N ≤ q - E - I ∧ q - E - I < q; let M := q - E - I - E; let A := Sl.e V; let Q := abE x (En.mk A.1 A.2 A.3 A.4 A.5 A.6); let t := St.mk [D, i, i, F, i, i, L, Y, i, s M, i, i, i, i, i, i, i, i, i, i, i, i, i, i, i, i, i, i, i, i, i, i, i, i, i, i, i, i, i, i, i, i, i, i, i, i, i, i, i, i, i, i, i, i, i, i, i, i] o; Nat.le e (B) → (U = true → S ∧ Blk.read Proofs.Try.prog z (4 : Nat) W (y + y) = some (AV.bool V.1) ∧ (V.1 = true → S ∧ Blk.read Proofs.Try.prog z (45 : Nat) W (y + J) = some (AV.agg [K A.1, K A.2, K A.3, K A.4, s A.5, s A.6]) ∧ (Q = true → G M ∧ ∃ (f : Nat), St.mk [D, i, i, F, i, i, L, s (q - E - I), i, s M, i, i, i, i, i, i, i, i, i, i, i, i, i, i, i, i, i, i, i, i, i, i, i, i, i, i, i, i, i, i, i, i, i, i, i, i, i, i, i, i, i, i, i, i, i, i, i, i] o = aa f ∧ Nat.le f (B) ∧ B + J - f < B + J - e) ∧ (Q = false → G M ∧ ∃ (g : Nat), t = aa g ∧ Nat.le g (B) ∧ B + J - g < B + J - e)) ∧ (V.1 = false → G M ∧ ∃ (h : Nat), t = aa h ∧ Nat.le h (B) ∧ B + J - h < B + J - e)) ∧ (U = false → AV.tuple [L, Y] = r)))) := by kernel_rfl

theorem rgap13Cs_ok : ∀ e ∈ rgap13Cs, SpecOK Try.prog e.1 e.2 := by
  intro e he
  simp only [rgap13Cs, List.mem_cons, List.not_mem_nil, or_false] at he
  rcases he with rfl
  · exact rabove_ok

theorem rgap13_ok : SpecOK Try.prog 54 (genSpec [pRefS, none] rgap13F) := by
  refine genSpec_ok (run_ok (l := rgap13Cs) rgap13Cs_ok mixed noNG) fun l R hF => ?_
  unfold rgap13F at hF
  split at hF
  · rename_i r_l v w m n k j
    obtain ⟨hr_l, hl, hF⟩ := hF
    generalize deS r_l = l at hr_l hl hF
    subst hr_l
    refine ⟨_, hF, rfl, (ga13H l ⟨v, w, m, n, k, j⟩), ?_⟩
    show run rgap13Cs Try.prog _ [.vsl 0 0 (l.map slE).length, .agg [.w64 v, .w64 w, .w64 m, .w64 n, .int .i64 k, .int .i64 j]] [some ⟨false, (pRefS.getD (0, 0)).1, (pRefS.getD (0, 0)).2, true, (l.map slE)⟩] _ _
    rw [rgap13_run]; (conv => zeta)
    generalize hx : (⟨v, w, m, n, k, j⟩ : En) = x
    have hlm : (l.map slE).length = l.length := List.length_map _
    refine ⟨⟨by unfold ga13St ex13R; rw [← hx]; rfl, Nat.zero_le _⟩, ?_⟩
    intro i (hi0 : i ≤ l.length)
    have i0 : inRange .i64 ((i : Int) + 1) := inR (by omega) (by omega)
    refine ⟨fun hlt => ?_, fun hge => ?_⟩
    · have hi : i < l.length := by have := of_decide_eq_true hlt; omega
      have Bi : 0 ≤ (i : Int) ∧ (i : Int) < ((l.map slE).length : Int) := by omega
      have g1 : gpP l (bfS x) (i + 1) = if bfS x (at' l i) then i + 1 else gpP l (bfS x) i := rfl
      refine ⟨Bi, read_rows Bi.1 Bi.2 (sl_ok _), fun h1 => ⟨Bi, read_rows Bi.1 Bi.2 (rsl_entry _), fun h2 => ?_, fun h2 => ?_⟩, fun h1 => ?_⟩
      · have h : bfS x (at' l i) = true := by
          unfold bfS
          rw [show (at' l i).ok = true from h1]
          exact h2
        rw [h, if_pos rfl] at g1
        exact ⟨i0, i0, i + 1, by unfold ga13St ex13R; rw [g1, ← hx]; rfl, hi, by omega⟩
      · have h : bfS x (at' l i) = false := by
          unfold bfS
          rw [show (at' l i).ok = true from h1]
          exact h2
        rw [h, if_neg (by simp)] at g1
        exact ⟨i0, i + 1, by unfold ga13St ex13R; rw [g1, ← hx]; rfl, hi, by omega⟩
      · have h : bfS x (at' l i) = false := bf_none h1
        rw [h, if_neg (by simp)] at g1
        exact ⟨i0, i + 1, by unfold ga13St ex13R; rw [g1, ← hx]; rfl, hi, by omega⟩
    · have hi : i = l.length := by have := of_decide_eq_false hge; omega
      subst hi
      refine ⟨inR (by omega) (by omega), ⟨by unfold gb13St gpQ ex13R; simp only [hlm, Int.natCast_zero, Int.sub_zero, ← hx]; rfl, Nat.zero_le _⟩, ?_⟩
      intro d (hd0 : d ≤ l.length)
      refine ⟨fun hlt => ?_, fun hge => ?_⟩
      · have hd : d < l.length := by have := of_decide_eq_true hlt; omega
        have Bd : 0 ≤ ((l.map slE).length : Int) - 1 - d ∧ ((l.map slE).length : Int) - 1 - d < ((l.map slE).length : Int) := by omega
        have ed : (((l.map slE).length : Int) - 1 - d).toNat = l.length - 1 - d := by omega
        have en : ((l.map slE).length : Int) - 1 - ((d + 1 : Nat) : Int) = ((l.map slE).length : Int) - 1 - d - 1 := by omega
        have ei : ((l.length - 1 - d : Nat) : Int) = ((l.map slE).length : Int) - 1 - d := by omega
        have g1 : gpQ l (afS x) (d + 1) = if afS x (gb13X l d) then l.length - 1 - d else gpQ l (afS x) d := rfl
        have i2 : inRange .i64 (((l.map slE).length : Int) - 1 - d - 1) := inR (by omega) (by omega)
        refine ⟨Bd, read_rows Bd.1 Bd.2 (by rw [ed]; exact sl_ok _), fun h1 => ⟨Bd, read_rows Bd.1 Bd.2 (by rw [ed]; exact rsl_entry _), fun h2 => ?_, fun h2 => ?_⟩, fun h1 => ?_⟩
        · have h : afS x (gb13X l d) = true := by
            unfold afS
            rw [show (gb13X l d).ok = true from h1]
            exact h2
          rw [h, if_pos rfl] at g1
          exact ⟨i2, d + 1, by unfold gb13St ex13R; rw [g1, en, ei, ← hx]; rfl, hd, by omega⟩
        · have h : afS x (gb13X l d) = false := by
            unfold afS
            rw [show (gb13X l d).ok = true from h1]
            exact h2
          rw [h, if_neg (by simp)] at g1
          exact ⟨i2, d + 1, by unfold gb13St ex13R; rw [g1, en, ← hx]; rfl, hd, by omega⟩
        · have h : afS x (gb13X l d) = false := af_none h1
          rw [h, if_neg (by simp)] at g1
          exact ⟨i2, d + 1, by unfold gb13St ex13R; rw [g1, en, ← hx]; rfl, hd, by omega⟩
      · have hd : d = l.length := by have := of_decide_eq_false hge; omega
        subst hd
        rfl
  · exact hF.elim


def rend13F : List Arg → (Res → Prop) → Prop
  | [.row r_l, .row r_W, .v (.int .i64 f), .v (.agg [.w64 v, .w64 w, .w64 m, .w64 n, .int .i64 k, .int .i64 j])], R => r_l = (deS r_l).map slE ∧ (deS r_l).length ≤ 1000000 ∧ r_W = (deN r_W).map nE ∧ (deN r_W).length ≤ 1000000 ∧ ((∀ i ∈ deN r_W, i < (deS r_l).length) ∧ 0 ≤ f) ∧ R (.vrow 85 8 ((enW (deS r_l) ⟨v, w, m, n, k, j⟩ (rvN (deN r_W)) f.toNat).map wrE))
  | _, _ => False

theorem rend13_run (l : List Sl) (W : List Nat) (f : Int) (v w m n : BitVec 64) (k j : Int) (F : List Wr → List AV) (es : List AV) : run [] Try.prog 55 [.vsl 0 0 (l.map slE).length, .vsl 1 0 (W.map nE).length, .int .i64 f, .agg [.w64 v, .w64 w, .w64 m, .w64 n, .int .i64 k, .int .i64 j]] [some ⟨false, (pRefS.getD (0, 0)).1, (pRefS.getD (0, 0)).2, true, (l.map slE)⟩, some ⟨false, (pN.getD (0, 0)).1, (pN.getD (0, 0)).2, true, (W.map nE)⟩] (en13H F l W f ⟨v, w, m, n, k, j⟩) (yields (.vrow 85 8 es)) =
    (let R := (8 : Nat); let K := Blk.mk true; let G := List.length (List.map nE W); let E := List.length (List.map slE l); let A := (1 : Int); let z := AV.w64; let x := En.mk v w m n k j; let S := en13I l W f x; let P := F (enW l x (rvN W) (Int.toNat f)); let t := Blk.mk false (78 : TypeId) (7 : Nat) true (List.map slE l); let r := (1 : Nat); let y := Blk.mk false (3 : TypeId) r true (List.map nE W); let o := (0 : Nat); let Q := AV.ptr (o + r + r) o o true; let g := AV.any; let e := AV.int IntKind.i64; let N := [AV.agg [z v, z w, z m, z n, e k, e j]]; let i := [some t, some y, some (K (45 : Nat) (6 : Nat) true N)]; let d := (↑G : Int);(inRange IntKind.i64 (d - A) ∧ (St.mk [AV.vsl o o E, AV.vsl (o + r) o G, g, g, g, g, g, Q, g, AV.vsl (List.length i) o o, e f, e (d - A), g, g, g, g, g, g, g, g, g, g, g, g, g, g, g, g, g, g, g, g, g, g, g, g, g, g, g, g, g, g, g] (i ++ [some (K (85 : TypeId) R true [])]) = en13St F l W x ([], Int.toNat f, o) ∧ S ([], Int.toNat f, o)) ∧ ∀ (a : List Wr × Nat × Nat), let u := List.length a.1; let U := u ≤ List.length (F a.1); let O := u + r ≤ (9223372036854775807 : Nat); let J := (u + r) * (64 : Nat) ≤ (140737488355328 : Nat); let h := Prod.snd a; let T := (↑h.1 : Int); let I := F (a.1 ++ [Wr.mk T (at' l (wy13 W h.2))]); let H := at' l (wy13 W (Prod.snd h)); let D := [AV.agg [e T, AV.bool true, z v, z w, z m, z n, e k, e j]]; let C := (↑(wy13 W h.2) : Int); let B := (↑h.2 : Int); let M := Decidable.decide (d - A - B ≥ (0 : Int)); let L := (0 : Int) ≤ d - A - B ∧ d - A - B < d; let q := Blk.read Proofs.Try.prog y (3 : Nat) (o + Int.toNat (d - A - B)) o = some (e C); let c := Sl.e H; let s := [AV.agg [e T, AV.bool H.1, z c.1, z c.2, z c.3, z c.4, e c.5, e c.6]]; S a → (M = true → L ∧ q ∧ ((0 : Int) ≤ C ∧ C < (↑E : Int)) ∧ Blk.read Proofs.Try.prog t (78 : Nat) (o + Int.toNat C) o = some (AV.agg [AV.bool H.1, z c.1, z c.2, z c.3, z c.4, e c.5, e c.6]) ∧ (J ∧ O ∧ o + r ≤ List.length s ∧ U) ∧ List.take (u) (F a.1) ++ s = I ∧ L ∧ q ∧ inRange IntKind.i64 (d - A - B - A) ∧ ∃ (b : List Wr × Nat × Nat), St.mk [AV.vsl o o E, AV.vsl (o + r) o G, g, g, g, g, g, Q, g, AV.vsl (o + r + r + r) o (u + r), e C, e (d - A - B - A), g, g, g, g, g, g, g, g, g, g, g, g, g, g, g, g, g, g, g, g, g, g, g, g, g, g, g, g, g, g, g] [some t, some y, some (K (45 : TypeId) (6 : Nat) true N), some (K (85 : Nat) R true (I))] = en13St F l W x b ∧ S b ∧ List.length W + r - (Prod.snd b).2 < List.length W + r - h.2) ∧ (M = false → (J ∧ O ∧ o + r ≤ List.length D ∧ U) ∧ List.take (u) (F a.1) ++ D = P ∧ u + r = List.length es ∧ some (K (85 : Nat) R true (P)) = some (K (85 : TypeId) R true es)))) := by kernel_rfl

theorem rend13_ok : SpecOK Try.prog 55 (genSpec [pRefS, pN, none, none] rend13F) := by
  refine genSpec_ok none_ok fun l R hF => ?_
  unfold rend13F at hF
  split at hF
  · rename_i r_l r_W f v w m n k j
    obtain ⟨hr_l, hl, hF⟩ := hF
    generalize deS r_l = l at hr_l hl hF
    subst hr_l
    obtain ⟨hr_W, hW, hF⟩ := hF
    generalize deN r_W = W at hr_W hW hF
    subst hr_W
    obtain ⟨hW, hF⟩ := hF
    refine ⟨_, hF, trivial, (en13H (List.map wrE) l W f ⟨v, w, m, n, k, j⟩), ?_⟩
    show run [] Try.prog _ [.vsl 0 0 (l.map slE).length, .vsl 1 0 (W.map nE).length, .int .i64 f, .agg [.w64 v, .w64 w, .w64 m, .w64 n, .int .i64 k, .int .i64 j]] [some ⟨false, (pRefS.getD (0, 0)).1, (pRefS.getD (0, 0)).2, true, (l.map slE)⟩, some ⟨false, (pN.getD (0, 0)).1, (pN.getD (0, 0)).2, true, (W.map nE)⟩] _ _
    rw [rend13_run]; (conv => zeta)
    generalize hx : (⟨v, w, m, n, k, j⟩ : En) = x
    obtain ⟨hW0, hf0⟩ := hW
    have hlm : (l.map slE).length = l.length := List.length_map _
    have hlW : (W.map nE).length = W.length := List.length_map _
    have lW : ∀ L : List Wr, (List.map wrE L).length = L.length := fun L => List.length_map _
    refine ⟨inR (by omega) (by omega), ⟨by unfold en13St; simp only [Int.natCast_zero, Int.sub_zero, Int.toNat_of_nonneg hf0, ← hx]; rfl, Nat.zero_le _, rfl, by show [] ++ enW l x ((rvN W).drop 0) f.toNat = _; rw [List.drop_zero]; rfl⟩, ?_⟩
    rintro ⟨o, q, d⟩ ⟨hd0, hod, hI⟩
    dsimp only at hd0 hod hI ⊢
    refine ⟨fun hlt => ?_, fun hge => ?_⟩
    · have hd : d < W.length := by have := of_decide_eq_true hlt; omega
      have Bd : 0 ≤ ((W.map nE).length : Int) - 1 - d ∧ ((W.map nE).length : Int) - 1 - d < ((W.map nE).length : Int) := by omega
      have ed : (((W.map nE).length : Int) - 1 - d).toNat = W.length - 1 - d := by omega
      have en : ((W.map nE).length : Int) - 1 - ((d + 1 : Nat) : Int) = ((W.map nE).length : Int) - 1 - d - 1 := by omega
      have hj : wy13 W d < l.length := hW0 _ (at_mem (by omega))
      have Bj : 0 ≤ ((wy13 W d : Nat) : Int) ∧ ((wy13 W d : Nat) : Int) < ((l.map slE).length : Int) := by omega
      have rd : ∀ b ty, (Blk.mk b ty 1 true (W.map nE)).read Try.prog 3 (0 + (((W.map nE).length : Int) - 1 - d).toNat) 0 = some (nE (wy13 W d)) := fun _ _ => read_rows Bd.1 Bd.2 (by rw [ed]; exact n_whole _)
      refine ⟨Bd, rd _ _, Bj, read_rows Bj.1 Bj.2 (by rw [Int.toNat_natCast]; exact rsl_whole _), ⟨by omega, by omega, Nat.le_refl _, by rw [lW]; exact Nat.le_refl _⟩, ?_, Bd, rd _ _, inR (by omega) (by omega), (o ++ [⟨q, at' l (wy13 W d)⟩], wy13 W d, d + 1), ?_, ⟨hd, by show (o ++ [_]).length = d + 1; rw [List.length_append, hod]; rfl, ?_⟩, by show W.length + 1 - (d + 1) < W.length + 1 - d; omega⟩
      · rw [List.take_of_length_le (by rw [lW]; exact Nat.le_refl _)]
        show _ = List.map wrE _
        rw [List.map_append]; rfl
      · unfold en13St
        dsimp only
        rw [List.length_append, en, ← hx]; rfl
      · show (o ++ [_]) ++ enW l x ((rvN W).drop (d + 1)) _ = _
        rw [← hI, wy_drop hd, List.append_assoc]; rfl
    · have hd : d = W.length := by have := of_decide_eq_false hge; omega
      subst hd
      rw [List.drop_eq_nil_of_le (by unfold rvN; rw [List.length_reverse]; exact Nat.le_refl _)] at hI
      refine ⟨⟨by omega, by omega, Nat.le_refl _, by rw [lW]; exact Nat.le_refl _⟩, ?_, ?_, rfl⟩
      · rw [List.take_of_length_le (by rw [lW]; exact Nat.le_refl _), ← hI]
        show _ = List.map wrE _
        rw [List.map_append, ← hx]; rfl
      · rw [lW, ← hI, List.length_append]; rfl
  · exact hF.elim


end Go.Proofs.Ytcabofadpheomaa.L1
end

section
/-
  Layer 13: the document's Below, Above.
-/
namespace Go.Proofs.Ytcabofadpheomaa.L1
open Go.Sx Go.Sx.M

theorem rvN_rvN (L : List Nat) : rvN (rvN L) = L := List.reverse_reverse L

/-- Below: so many slots are left; which slot is vacated next; those that were, the last one first. -/
def ix13 (l : List Sl) (p : Nat × Nat × List Nat) : Nat := l.length - p.1
def bl13St (F : List Nat → List AV) (l : List Sl) (x : En) (p : Nat × Nat × List Nat) : St := ⟨[.vsl 0 0 (l.map slE).length, .any, .any, .any, .any, .ptr 1 0 0 true, .any, .vsl 2 0 p.2.2.length, .int .i64 p.2.1, .int .i64 (ix13 l p), .any, .any, .any, .any, .any, .any, .any, .any, .any, .any, .any, .any, .any, .any, .any, .any, .any, .any, .any, .any, .any, .any, .any, .any, .any, .any, .any, .any, .any, .any, .any, .any, .any, .any, .any, .any, .any, .any, .any, .any, .any, .any, .any, .any, .any, .any, .any, .any, .any, .any, .any, .any, .any, .any, .any, .any, .any], [rs13R l, ex13R x, some ⟨true, 3, 1, true, F (rvN p.2.2)⟩]⟩
def bl13M0 : Modes := ⟨[1, 0, 0, 0, 0, 1, 0, 1, 1, 1, 0, 0, 0, 0, 0, 0, 0, 0, 0, 0, 0, 0, 0, 0, 0, 0, 0, 0, 0, 0, 0, 0, 0, 0, 0, 0, 0, 0, 0, 0, 0, 0, 0, 0, 0, 0, 0, 0, 0, 0, 0, 0, 0, 0, 0, 0, 0, 0, 0, 0, 0, 0, 0, 0, 0, 0, 0], [], [], [7], []⟩
def bl13M : Modes := ⟨[1, 0, 0, 0, 0, 1, 0, 1, 1, 1, 0, 0, 0, 0, 0, 0, 0, 0, 0, 0, 0, 0, 0, 0, 0, 0, 0, 0, 0, 0, 0, 0, 0, 0, 0, 0, 0, 0, 0, 0, 0, 0, 0, 0, 0, 0, 0, 0, 0, 0, 0, 0, 0, 0, 0, 0, 0, 0, 0, 0, 0, 0, 0, 0, 0, 0, 0], [], [], [], []⟩
def bl13M' : Modes := ⟨[1, 0, 0, 0, 0, 0, 1, 0, 0, 0, 0, 0, 0, 0, 0, 0, 0, 0, 0, 0, 0, 0, 0, 0, 0, 0, 0, 0, 0, 0, 0, 0, 0, 0, 0, 0, 0, 0, 0, 0, 0, 0, 0, 0, 0, 0, 0, 0, 0, 0, 0, 0, 0, 0, 0, 0, 0, 0, 0, 0, 0, 0, 0, 0, 0, 0, 0], [], [], [], []⟩
def bl13I (l : List Sl) (x : En) (t : Int) (p : Nat × Nat × List Nat) : Prop := p.1 ≤ l.length ∧ (∀ j ∈ p.2.2, j < l.length) ∧ p.2.2.length + p.1 ≤ l.length ∧ bwC l x p.1 p.2.1 p.2.2 = bwC l x (l.length - t.toNat) t.toNat []
def bm13St (F : List Nat → List AV) (l : List Sl) (x : En) (p : Nat × Nat × List Nat) (d : Nat) : St := ⟨[.vsl 0 0 (l.map slE).length, .any, .any, .any, .any, .ptr 1 0 0 true, .any, .vsl 2 0 (p.2.2.length + 1), .int .i64 (gpQ l (afS (at' l (ix13 l p)).e) d), .int .i64 (ix13 l p), .int .i64 (((l.map slE).length : Int) - 1 - d), .any, .any, .any, .any, .any, .any, .any, .any, .any, .any, .any, .any, .any, .any, .any, .any, .any, .any, .any, .any, .any, .any, .any, .any, .any, .any, .any, .any, .any, .any, .any, .any, .any, .any, .any, .any, .any, .any, .any, .any, .any, .any, .any, .any, .any, .any, .any, .any, .any, .any, .any, .any, .any, .any, .any, .any], [rs13R l, ex13R x, some ⟨true, 3, 1, true, F (rvN (ix13 l p :: p.2.2))⟩]⟩
def bm13M : Modes := ⟨[1, 0, 0, 0, 0, 1, 0, 1, 1, 1, 1, 0, 0, 0, 0, 0, 0, 0, 0, 0, 0, 0, 0, 0, 0, 0, 0, 0, 0, 0, 0, 0, 0, 0, 0, 0, 0, 0, 0, 0, 0, 0, 0, 0, 0, 0, 0, 0, 0, 0, 0, 0, 0, 0, 0, 0, 0, 0, 0, 0, 0, 0, 0, 0, 0, 0, 0], [], [], [], []⟩
def bm13M' : Modes := ⟨[1, 0, 0, 0, 0, 1, 0, 1, 1, 1, 0, 0, 0, 0, 0, 0, 0, 0, 0, 0, 0, 0, 0, 0, 0, 0, 0, 0, 0, 0, 0, 0, 0, 0, 0, 0, 0, 0, 0, 0, 0, 0, 0, 0, 0, 0, 0, 0, 0, 0, 0, 0, 0, 0, 0, 0, 0, 0, 0, 0, 0, 0, 0, 0, 0, 0, 0], [], [], [], []⟩
def bl13T (l : List Sl) (p : Nat × Nat × List Nat) : List Hint := [.dy, .cell (.bool (at' l (ix13 l p)).ok), .fork [] [.nw]]
def bl13H (F : List Nat → List AV) (l : List Sl) (t : Int) (x : En) : List Hint := [.linv _ (l.length - t.toNat, t.toNat, []) (bl13St F l x) (bl13I l x t) (fun p => p.1) bl13M0 bl13M bl13M' (fun _ => []) fun p =>
  [.fork [.fork (.rows (F (rvN (ix13 l p :: p.2.2))) :: .nw :: .linv _ 0 (bm13St F l x p) (fun d => d ≤ p.1 - 1) (fun d => p.1 - d) bm13M bm13M bm13M' (fun _ => bl13T l p) (fun d =>
      [.fork [.dy, .cell (.bool (gb13X l d).ok), .fork [.dy, .cell (enE (at' l (ix13 l p)).e), .dy, .cell (enE (gb13X l d).e), .fork [.nw] [.nw]] [.nw]] []]) :: []) (bl13T l p)] []]]

def rbelow13F : List Arg → (Res → Prop) → Prop
  | [.row r_l, .v (.int .i64 t), .v (.agg [.w64 v, .w64 w, .w64 m, .w64 n, .int .i64 k, .int .i64 j])], R => r_l = (deS r_l).map slE ∧ (deS r_l).length ≤ 1000000 ∧ (0 ≤ t ∧ t ≤ (deS r_l).length) ∧ R (.vrow 85 8 ((bwC (deS r_l) ⟨v, w, m, n, k, j⟩ ((deS r_l).length - t.toNat) t.toNat []).map wrE))
  | _, _ => False

noncomputable def rbelow13Cs : List (FuncId × Sx.Spec) := [(62, genSpec [none, none] raboveF),
  (55, genSpec [pRefS, pN, none, none] rend13F)]

theorem rbelow13_run (l : List Sl) (t : Int) (v w m n : BitVec 64) (k j : Int) (F : List Nat → List AV) (es : List AV) : run rbelow13Cs Try.prog 56 [.vsl 0 0 (l.map slE).length, .int .i64 t, .agg [.w64 v, .w64 w, .w64 m, .w64 n, .int .i64 k, .int .i64 j]] [some ⟨false, (pRefS.getD (0, 0)).1, (pRefS.getD (0, 0)).2, true, (l.map slE)⟩] (bl13H F l t ⟨v, w, m, n, k, j⟩) (yields (.vrow 85 8 es)) =
    (let ai := List.map slE; let ah := (1000000 : Nat); let ae := (List.length l - Int.toNat t, Int.toNat t, []); let aa := Blk.mk true; let Y := AV.w64; let U := inRange IntKind.i64; let O := aa (85 : TypeId) (8 : Nat) true; let M := (1 : Int); let J := En.mk v w m n k j; let ar := bl13I l J t; let H := (1 : Nat); let A := Blk.mk false (78 : TypeId) (7 : Nat) true (ai l); let z := AV.int IntKind.i64; let ak := [AV.agg [Y v, Y w, Y m, Y n, z k, z j]]; let L := aa (45 : TypeId) (6 : Nat) true ak; let u := (0 : Nat); let T := AV.vsl (u + H + H) u; let Q := AV.ptr (u + H) u u true; let r := List.length (ai l); let Z := AV.vsl u u (r); let K := (↑(r) : Int); let C := List.take (r) (List.drop u (ai l)); let X := deS (C); let am := List.length X; let q := AV.any;((St.mk [Z, q, q, q, q, Q, q, T u, z t, z t, q, q, q, q, q, q, q, q, q, q, q, q, q, q, q, q, q, q, q, q, q, q, q, q, q, q, q, q, q, q, q, q, q, q, q, q, q, q, q, q, q, q, q, q, q, q, q, q, q, q, q, q, q, q, q, q, q] [some A, some (aa (45 : Nat) (6 : Nat) true ak), some (aa (3 : Nat) H true [])] = bl13St F l J ae ∧ ar ae) ∧ ∀ (a : Nat × Nat × List Nat), let ao := a.1 - H; let al := bm13St F l J a; let S := Prod.snd a; let aA := (↑S.1 : Int); let af := F (rvN S.2); let R := at' l (ix13 l a); let N := F (rvN (ix13 l a :: S.2)); let B := Sl.e R; let y := (↑(ix13 l a) : Int); let az := Decidable.decide (y < K); let au := Int.toNat y; let ag := (0 : Int) ≤ y; let aB := ag ∧ y < K; let V := Blk.read Proofs.Try.prog A (4 : Nat) (u + au) (u + u) = some (AV.bool R.1); let x := List.length S.2; let an := x + H; let I := List.take (x) (List.drop u af); let ax := deN (I); let ad := List.map wrE (enW X J (rvN ax) (au)); let E := List.take an (List.drop u (N)); let ay := deN (E); let ac := List.map wrE (enW X J (rvN ay) (au)); let s := [some A, some L, some (aa (3 : TypeId) H true (N))]; ar a → (az = true → ((y == aA) = true → (an * (8 : Nat) ≤ (140737488355328 : Nat) ∧ x + H ≤ (9223372036854775807 : Nat) ∧ u + H ≤ List.length [z y] ∧ x ≤ List.length af) ∧ List.take (x) af ++ [z y] = N ∧ U (K - M) ∧ (St.mk [Z, q, q, q, q, Q, q, T an, z K, z y, z (K - M), q, q, q, q, q, q, q, q, q, q, q, q, q, q, q, q, q, q, q, q, q, q, q, q, q, q, q, q, q, q, q, q, q, q, q, q, q, q, q, q, q, q, q, q, q, q, q, q, q, q, q, q, q, q, q, q] [some A, some L, some (aa (3 : Nat) H true (N))] = al u ∧ Nat.le u ao) ∧ ∀ (b : Nat), let aw := z (↑(gpQ l (afS B) b) : Int); let aq := gb13X l b; let P := (↑b : Int); let av := u + Int.toNat (K - M - P); let ap := Decidable.decide (K - M - P > y); let aj := (0 : Int) ≤ K - M - P ∧ K - M - P < K; let ab := K - M - P - M; let G := Sl.e aq; let W := abE (En.mk B.1 B.2 B.3 B.4 B.5 B.6) (En.mk G.1 G.2 G.3 G.4 G.5 G.6); let D := St.mk [Z, q, q, q, q, Q, q, T an, aw, z y, z ab, q, q, q, q, q, q, q, q, q, q, q, q, q, q, q, q, q, q, q, q, q, q, q, q, q, q, q, q, q, q, q, q, q, q, q, q, q, q, q, q, q, q, q, q, q, q, q, q, q, q, q, q, q, q, q, q] s; Nat.le b ao → (ap = true → aj ∧ Blk.read Proofs.Try.prog A (4 : Nat) av (u + u) = some (AV.bool aq.1) ∧ (aq.1 = true → aB ∧ Blk.read Proofs.Try.prog A (45 : Nat) (u + au) (u + H) = some (AV.agg [Y B.1, Y B.2, Y B.3, Y B.4, z B.5, z B.6]) ∧ aj ∧ Blk.read Proofs.Try.prog A (45 : Nat) av (u + H) = some (AV.agg [Y G.1, Y G.2, Y G.3, Y G.4, z G.5, z G.6]) ∧ (W = true → U ab ∧ ∃ (c : Nat), St.mk [Z, q, q, q, q, Q, q, T an, z (K - M - P), z y, z ab, q, q, q, q, q, q, q, q, q, q, q, q, q, q, q, q, q, q, q, q, q, q, q, q, q, q, q, q, q, q, q, q, q, q, q, q, q, q, q, q, q, q, q, q, q, q, q, q, q, q, q, q, q, q, q, q] s = al c ∧ Nat.le c ao ∧ a.1 - c < a.1 - b) ∧ (W = false → U ab ∧ ∃ (d : Nat), D = al d ∧ Nat.le d ao ∧ a.1 - d < a.1 - b)) ∧ (aq.1 = false → U ab ∧ ∃ (e : Nat), D = al e ∧ Nat.le e ao ∧ a.1 - e < a.1 - b)) ∧ (ap = false → aB ∧ V ∧ ((!R.1) = true → u + r ≤ r ∧ u + an ≤ List.length (N) ∧ C = ai X ∧ am ≤ ah ∧ E = List.map nE ay ∧ List.length ay ≤ ah ∧ ((∀ (f : Nat), List.Mem f ay → f < am) ∧ ag) ∧ List.length ac = List.length es ∧ some (O ac) = some (O es)) ∧ ((!R.1) = false → U (y + M) ∧ ∃ (g : Nat × Nat × List Nat), St.mk [Z, q, q, q, q, Q, q, T an, aw, z (y + M), q, q, q, q, q, q, q, q, q, q, q, q, q, q, q, q, q, q, q, q, q, q, q, q, q, q, q, q, q, q, q, q, q, q, q, q, q, q, q, q, q, q, q, q, q, q, q, q, q, q, q, q, q, q, q, q, q] s = bl13St F l J g ∧ ar g ∧ g.1 < a.1))) ∧ ((y == aA) = false → aB ∧ V ∧ ((!R.1) = true → u + r ≤ r ∧ u + x ≤ List.length af ∧ C = ai X ∧ am ≤ ah ∧ I = List.map nE ax ∧ List.length ax ≤ ah ∧ ((∀ (h : Nat), List.Mem h ax → h < am) ∧ ag) ∧ List.length ad = List.length es ∧ some (O ad) = some (O es)) ∧ ((!R.1) = false → U (y + M) ∧ ∃ (o : Nat × Nat × List Nat), St.mk [Z, q, q, q, q, Q, q, T (x), z aA, z (y + M), q, q, q, q, q, q, q, q, q, q, q, q, q, q, q, q, q, q, q, q, q, q, q, q, q, q, q, q, q, q, q, q, q, q, q, q, q, q, q, q, q, q, q, q, q, q, q, q, q, q, q, q, q, q, q, q, q] [some A, some L, some (aa (3 : TypeId) H true af)] = bl13St F l J o ∧ ar o ∧ o.1 < a.1))) ∧ (az = false → es = []))) := by kernel_rfl

theorem rbelow13Cs_ok : ∀ e ∈ rbelow13Cs, SpecOK Try.prog e.1 e.2 := by
  intro e he
  simp only [rbelow13Cs, List.mem_cons, List.not_mem_nil, or_false] at he
  rcases he with rfl | rfl
  · exact rabove_ok
  · exact rend13_ok

theorem rbelow13_ok : SpecOK Try.prog 56 (genSpec [pRefS, none, none] rbelow13F) := by
  refine genSpec_ok (run_ok (l := rbelow13Cs) rbelow13Cs_ok mixed noNG) fun l R hF => ?_
  unfold rbelow13F at hF
  split at hF
  · rename_i r_l t v w m n k j
    obtain ⟨hr_l, hl, hF⟩ := hF
    generalize deS r_l = l at hr_l hl hF
    subst hr_l
    obtain ⟨ht, hF⟩ := hF
    refine ⟨_, hF, trivial, (bl13H (List.map nE) l t ⟨v, w, m, n, k, j⟩), ?_⟩
    show run rbelow13Cs Try.prog _ [.vsl 0 0 (l.map slE).length, .int .i64 t, .agg [.w64 v, .w64 w, .w64 m, .w64 n, .int .i64 k, .int .i64 j]] [some ⟨false, (pRefS.getD (0, 0)).1, (pRefS.getD (0, 0)).2, true, (l.map slE)⟩] _ _
    rw [rbelow13_run]; (conv => zeta)
    generalize hx : (⟨v, w, m, n, k, j⟩ : En) = x
    obtain ⟨ht0, ht1⟩ := ht
    have hlm : (l.map slE).length = l.length := List.length_map _
    have lN : ∀ L : List Nat, (List.map nE L).length = L.length := fun L => List.length_map _
    have lR : ∀ L : List Nat, (rvN L).length = L.length := fun L => by unfold rvN; rw [List.length_reverse]
    have tR : ∀ L : List Nat, List.take L.length (List.drop 0 (List.map nE (rvN L))) = List.map nE (rvN L) := fun L => take_all (lR L)
    refine ⟨⟨?_, Nat.sub_le _ _, fun i hi => absurd hi List.not_mem_nil, by show 0 + (l.length - t.toNat) ≤ l.length; omega, rfl⟩, ?_⟩
    · have e : ((l.length - (l.length - t.toNat) : Nat) : Int) = t := by omega
      unfold bl13St ix13 ex13R
      dsimp only
      rw [e, Int.toNat_of_nonneg ht0, ← hx]; rfl
    rintro ⟨g, a, r⟩ ⟨hg, hr, hrl, hI⟩
    dsimp only at hg hr hrl hI ⊢
    refine ⟨fun hlt => ?_, fun hge => ?_⟩
    · have hlt : ix13 l (g, a, r) < l.length := by have := of_decide_eq_true hlt; omega
      obtain ⟨f, rfl⟩ : ∃ f, g = f + 1 := ⟨g - 1, by unfold ix13 at hlt; dsimp only at hlt; omega⟩
      have ei : l.length - 1 - f = ix13 l (f + 1, a, r) := by unfold ix13; dsimp only; omega
      have bw : bwC l x (f + 1) a r = if ix13 l (f + 1, a, r) = a then (if (at' l (ix13 l (f + 1, a, r))).ok then bwC l x f (gpQ l (afS (at' l (ix13 l (f + 1, a, r))).e) f) (ix13 l (f + 1, a, r) :: r) else enW l x (ix13 l (f + 1, a, r) :: r) (ix13 l (f + 1, a, r))) else (if (at' l (ix13 l (f + 1, a, r))).ok then bwC l x f a r else enW l x r (ix13 l (f + 1, a, r))) := by rw [← ei]; rfl
      have en : ∀ a' r', ((ix13 l (f, a', r') : Nat) : Int) = (ix13 l (f + 1, a, r) : Int) + 1 := fun _ _ => by unfold ix13; dsimp only; omega
      have Bi : 0 ≤ ((ix13 l (f + 1, a, r) : Nat) : Int) ∧ ((ix13 l (f + 1, a, r) : Nat) : Int) < ((l.map slE).length : Int) := by omega
      have rO : (Blk.mk false 78 7 true (l.map slE)).read Try.prog 4 (0 + Int.toNat ((ix13 l (f + 1, a, r) : Nat) : Int)) (0 + 0) = some (.bool (at' l (ix13 l (f + 1, a, r))).ok) := read_rows Bi.1 Bi.2 (by rw [Int.toNat_natCast]; exact sl_ok _)
      have i0 : inRange .i64 (((ix13 l (f + 1, a, r) : Nat) : Int) + 1) := inR (by omega) (by omega)
      have hrn : ∀ j ∈ rvN r, j < l.length := fun j hj => hr j (by unfold rvN at hj; exact List.mem_reverse.1 hj)
      refine ⟨fun hia => ?_, fun hia => ?_⟩
      · have hia : ix13 l (f + 1, a, r) = a := by have := eq_of_beq hia; omega
        have hr2 : ∀ j ∈ ix13 l (f + 1, a, r) :: r, j < l.length := fun j hj => (List.mem_cons.1 hj).elim (fun e => e ▸ hlt) (hr j)
        have hrn2 : ∀ j ∈ rvN (ix13 l (f + 1, a, r) :: r), j < l.length := fun j hj => hr2 j (by unfold rvN at hj; exact List.mem_reverse.1 hj)
        rw [if_pos hia] at bw
        refine ⟨⟨by omega, by omega, Nat.le_refl _, by rw [lN, lR]; exact Nat.le_refl _⟩, ?_, inR (by omega) (by omega), ⟨?_, Nat.zero_le _⟩, ?_⟩
        · rw [List.take_of_length_le (by rw [lN, lR]; exact Nat.le_refl _)]
          show _ = List.map nE (List.reverse (_ :: r))
          rw [List.reverse_cons, List.map_append]; rfl
        · unfold bm13St gpQ
          simp only [hlm, Int.natCast_zero, Int.sub_zero, ← hx]; rfl
        intro d (hd0 : d ≤ f)
        refine ⟨fun hlt2 => ?_, fun hge2 => ?_⟩
        · have hd : d < f := by have := of_decide_eq_true hlt2; unfold ix13 at this; dsimp only at this; omega
          have Bd : 0 ≤ ((l.map slE).length : Int) - 1 - d ∧ ((l.map slE).length : Int) - 1 - d < ((l.map slE).length : Int) := by omega
          have ed : (((l.map slE).length : Int) - 1 - d).toNat = l.length - 1 - d := by omega
          have en2 : ((l.map slE).length : Int) - 1 - ((d + 1 : Nat) : Int) = ((l.map slE).length : Int) - 1 - d - 1 := by omega
          have ei2 : ((l.length - 1 - d : Nat) : Int) = ((l.map slE).length : Int) - 1 - d := by omega
          have g1 : gpQ l (afS (at' l (ix13 l (f + 1, a, r))).e) (d + 1) = if afS (at' l (ix13 l (f + 1, a, r))).e (gb13X l d) then l.length - 1 - d else gpQ l (afS (at' l (ix13 l (f + 1, a, r))).e) d := rfl
          have i2 : inRange .i64 (((l.map slE).length : Int) - 1 - d - 1) := inR (by omega) (by omega)
          have hm : f + 1 - (d + 1) < f + 1 - d := by omega
          refine ⟨Bd, read_rows Bd.1 Bd.2 (by rw [ed]; exact sl_ok _), fun h1 => ⟨Bi, read_rows Bi.1 Bi.2 (by rw [Int.toNat_natCast]; exact rsl_entry _), Bd, read_rows Bd.1 Bd.2 (by rw [ed]; exact rsl_entry _), fun h2 => ?_, fun h2 => ?_⟩, fun h1 => ?_⟩
          · have h : afS (at' l (ix13 l (f + 1, a, r))).e (gb13X l d) = true := by
              unfold afS
              rw [show (gb13X l d).ok = true from h1]
              exact h2
            rw [h, if_pos rfl] at g1
            exact ⟨i2, d + 1, by unfold bm13St ex13R; dsimp only; rw [g1, en2, ei2, ← hx]; rfl, hd, hm⟩
          · have h : afS (at' l (ix13 l (f + 1, a, r))).e (gb13X l d) = false := by
              unfold afS
              rw [show (gb13X l d).ok = true from h1]
              exact h2
            rw [h, if_neg (by simp)] at g1
            exact ⟨i2, d + 1, by unfold bm13St ex13R; dsimp only; rw [g1, en2, ← hx]; rfl, hd, hm⟩
          · have h : afS (at' l (ix13 l (f + 1, a, r))).e (gb13X l d) = false := af_none h1
            rw [h, if_neg (by simp)] at g1
            exact ⟨i2, d + 1, by unfold bm13St ex13R; dsimp only; rw [g1, en2, ← hx]; rfl, hd, hm⟩
        · have hd : d = f := by have := of_decide_eq_false hge2; unfold ix13 at this; dsimp only at this; omega
          subst hd
          have t1 := tR (ix13 l (d + 1, a, r) :: r)
          rw [List.length_cons] at t1
          simp only [t1, deN_map, whole_row, deS_map, lN, lR, List.length_cons, zLe, true_and, eq_self, hl, rvN_rvN]
          refine ⟨Bi, rO, fun ho => ⟨by omega, ⟨hrn2, Bi.1⟩, ?_⟩, fun ho => ⟨i0, (d, gpQ l (afS (at' l (ix13 l (d + 1, a, r))).e) d, ix13 l (d + 1, a, r) :: r), ?_, ⟨by omega, hr2, by show r.length + 1 + d ≤ l.length; omega, ?_⟩, by omega⟩⟩
          · rw [if_neg (by simpa using ho)] at bw
            rw [← hI, bw, Int.toNat_natCast, ← hx]
            exact ⟨rfl, rfl⟩
          · unfold bl13St ex13R
            dsimp only
            rw [en, ← hx]; rfl
          · rw [if_pos (by simpa using ho)] at bw
            rw [← hI, bw]
      · have hia : ix13 l (f + 1, a, r) ≠ a := by intro e; rw [e] at hia; simp at hia
        rw [if_neg hia] at bw
        simp only [tR, deN_map, whole_row, deS_map, lN, lR, zLe, true_and, eq_self, hl, rvN_rvN]
        refine ⟨Bi, rO, fun ho => ⟨by omega, ⟨hrn, Bi.1⟩, ?_⟩, fun ho => ⟨i0, (f, a, r), ?_, ⟨by omega, hr, by show r.length + f ≤ l.length; omega, ?_⟩, by omega⟩⟩
        · rw [if_neg (by simpa using ho)] at bw
          rw [← hI, bw, Int.toNat_natCast, ← hx]
          exact ⟨rfl, rfl⟩
        · unfold bl13St ex13R
          dsimp only
          rw [en, ← hx]; rfl
        · rw [if_pos (by simpa using ho)] at bw
          rw [← hI, bw]
    · have hg : g = 0 := by have := of_decide_eq_false hge; unfold ix13 at this; dsimp only at this; omega
      subst hg
      rw [← hI]; rfl
  · exact hF.elim


end Go.Proofs.Ytcabofadpheomaa.L1
end

section
/-
  Layer 13: the document's Above.
-/
namespace Go.Proofs.Ytcabofadpheomaa.L1
open Go.Sx Go.Sx.M

/-- Above: so many slots are ahead; behind which slot is vacated next; those that were, the last one first. -/
def iz13 (p : Nat × Nat × List Nat) : Nat := p.1 - 1
def al13St (F : List Nat → List AV) (l : List Sl) (x : En) (p : Nat × Nat × List Nat) : St := ⟨[.vsl 0 0 (l.map slE).length, .any, .any, .any, .any, .ptr 1 0 0 true, .any, .vsl 2 0 p.2.2.length, .int .i64 ((p.2.1 : Int) - 1), .int .i64 ((p.1 : Int) - 1), .any, .any, .any, .any, .any, .any, .any, .any, .any, .any, .any, .any, .any, .any, .any, .any, .any, .any, .any, .any, .any, .any, .any, .any, .any, .any, .any, .any, .any, .any, .any, .any, .any, .any, .any, .any, .any, .any, .any, .any, .any, .any, .any, .any, .any, .any, .any, .any, .any, .any, .any, .any], [rs13R l, ex13R x, some ⟨true, 3, 1, true, F (rvN p.2.2)⟩]⟩
def al13M0 : Modes := ⟨[1, 0, 0, 0, 0, 1, 0, 1, 1, 1, 0, 0, 0, 0, 0, 0, 0, 0, 0, 0, 0, 0, 0, 0, 0, 0, 0, 0, 0, 0, 0, 0, 0, 0, 0, 0, 0, 0, 0, 0, 0, 0, 0, 0, 0, 0, 0, 0, 0, 0, 0, 0, 0, 0, 0, 0, 0, 0, 0, 0, 0, 0], [], [], [7], []⟩
def al13M : Modes := ⟨[1, 0, 0, 0, 0, 1, 0, 1, 1, 1, 0, 0, 0, 0, 0, 0, 0, 0, 0, 0, 0, 0, 0, 0, 0, 0, 0, 0, 0, 0, 0, 0, 0, 0, 0, 0, 0, 0, 0, 0, 0, 0, 0, 0, 0, 0, 0, 0, 0, 0, 0, 0, 0, 0, 0, 0, 0, 0, 0, 0, 0, 0], [], [], [], []⟩
def al13M' : Modes := ⟨[1, 0, 0, 0, 0, 0, 1, 0, 0, 0, 0, 0, 0, 0, 0, 0, 0, 0, 0, 0, 0, 0, 0, 0, 0, 0, 0, 0, 0, 0, 0, 0, 0, 0, 0, 0, 0, 0, 0, 0, 0, 0, 0, 0, 0, 0, 0, 0, 0, 0, 0, 0, 0, 0, 0, 0, 0, 0, 0, 0, 0, 0], [], [], [], []⟩
def al13I (l : List Sl) (x : En) (t : Int) (p : Nat × Nat × List Nat) : Prop := p.1 ≤ l.length ∧ (∀ j ∈ p.2.2, j < l.length) ∧ p.2.2.length + p.1 ≤ l.length ∧ avC l x p.1 p.2.1 p.2.2 = avC l x t.toNat t.toNat []
def am13St (F : List Nat → List AV) (l : List Sl) (x : En) (p : Nat × Nat × List Nat) (d : Nat) : St := ⟨[.vsl 0 0 (l.map slE).length, .any, .any, .any, .any, .ptr 1 0 0 true, .any, .vsl 2 0 (p.2.2.length + 1), .int .i64 ((gpP l (bfS (at' l (iz13 p)).e) d : Int) - 1), .int .i64 ((p.1 : Int) - 1), .int .i64 d, .any, .any, .any, .any, .any, .any, .any, .any, .any, .any, .any, .any, .any, .any, .any, .any, .any, .any, .any, .any, .any, .any, .any, .any, .any, .any, .any, .any, .any, .any, .any, .any, .any, .any, .any, .any, .any, .any, .any, .any, .any, .any, .any, .any, .any, .any, .any, .any, .any, .any, .any], [rs13R l, ex13R x, some ⟨true, 3, 1, true, F (rvN (iz13 p :: p.2.2))⟩]⟩
def am13M : Modes := ⟨[1, 0, 0, 0, 0, 1, 0, 1, 1, 1, 1, 0, 0, 0, 0, 0, 0, 0, 0, 0, 0, 0, 0, 0, 0, 0, 0, 0, 0, 0, 0, 0, 0, 0, 0, 0, 0, 0, 0, 0, 0, 0, 0, 0, 0, 0, 0, 0, 0, 0, 0, 0, 0, 0, 0, 0, 0, 0, 0, 0, 0, 0], [], [], [], []⟩
def am13M0 : Modes := ⟨[1, 0, 0, 0, 0, 1, 0, 1, 2, 1, 2, 0, 0, 0, 0, 0, 0, 0, 0, 0, 0, 0, 0, 0, 0, 0, 0, 0, 0, 0, 0, 0, 0, 0, 0, 0, 0, 0, 0, 0, 0, 0, 0, 0, 0, 0, 0, 0, 0, 0, 0, 0, 0, 0, 0, 0, 0, 0, 0, 0, 0, 0], [], [], [], []⟩
def am13M' : Modes := ⟨[1, 0, 0, 0, 0, 1, 0, 1, 1, 1, 0, 0, 0, 0, 0, 0, 0, 0, 0, 0, 0, 0, 0, 0, 0, 0, 0, 0, 0, 0, 0, 0, 0, 0, 0, 0, 0, 0, 0, 0, 0, 0, 0, 0, 0, 0, 0, 0, 0, 0, 0, 0, 0, 0, 0, 0, 0, 0, 0, 0, 0, 0], [], [], [], []⟩
def al13T (l : List Sl) (p : Nat × Nat × List Nat) : List Hint := [.dy, .cell (.bool (at' l (iz13 p)).ok), .fork [] [.nw]]
def al13H (F : List Nat → List AV) (l : List Sl) (t : Int) (x : En) : List Hint := [.nw, .nw, .linv _ (t.toNat, t.toNat, []) (al13St F l x) (al13I l x t) (fun p => p.1) al13M0 al13M al13M' (fun _ => []) fun p =>
  [.fork [.fork (.rows (F (rvN (iz13 p :: p.2.2))) :: .linv _ 0 (am13St F l x p) (fun d => d ≤ p.1 - 1) (fun d => p.1 - d) am13M0 am13M am13M' (fun _ => al13T l p) (fun d =>
      [.fork [.dy, .cell (.bool (at' l d).ok), .fork [.dy, .cell (enE (at' l d).e), .dy, .cell (enE (at' l (iz13 p)).e), .fork [.nw] [.nw]] [.nw]] []]) :: []) (al13T l p)] []]]

def rabove13F : List Arg → (Res → Prop) → Prop
  | [.row r_l, .v (.int .i64 t), .v (.agg [.w64 v, .w64 w, .w64 m, .w64 n, .int .i64 k, .int .i64 j])], R => r_l = (deS r_l).map slE ∧ (deS r_l).length ≤ 1000000 ∧ (0 ≤ t ∧ t ≤ (deS r_l).length) ∧ R (.vrow 85 8 ((avC (deS r_l) ⟨v, w, m, n, k, j⟩ t.toNat t.toNat []).map wrE))
  | _, _ => False

noncomputable def rabove13Cs : List (FuncId × Sx.Spec) := [(62, genSpec [none, none] raboveF),
  (55, genSpec [pRefS, pN, none, none] rend13F)]

theorem rabove13_run (l : List Sl) (t : Int) (v w m n : BitVec 64) (k j : Int) (F : List Nat → List AV) (es : List AV) : run rabove13Cs Try.prog 57 [.vsl 0 0 (l.map slE).length, .int .i64 t, .agg [.w64 v, .w64 w, .w64 m, .w64 n, .int .i64 k, .int .i64 j]] [some ⟨false, (pRefS.getD (0, 0)).1, (pRefS.getD (0, 0)).2, true, (l.map slE)⟩] (al13H F l t ⟨v, w, m, n, k, j⟩) (yields (.vrow 85 8 es)) =
    (let an := (Int.toNat t, Int.toNat t, []); let ah := List.map slE; let ag := (1000000 : Nat); let ac := (0 : Int); let ab := Blk.mk true; let Z := AV.w64; let Q := inRange IntKind.i64; let N := ab (85 : TypeId) (8 : Nat) true; let J := En.mk v w m n k j; let ar := al13I l J t; let H := (1 : Nat); let E := (1 : Int); let C := List.length (ah l); let z := Blk.mk false (78 : TypeId) (7 : Nat) true (ah l); let y := AV.int IntKind.i64; let ai := [AV.agg [Z v, Z w, Z m, Z n, y k, y j]]; let L := ab (45 : TypeId) (6 : Nat) true ai; let u := (0 : Nat); let aa := AV.vsl u u (C); let S := AV.vsl (u + H + H) u; let P := AV.ptr (u + H) u u true; let s := List.take (C) (List.drop u (ah l)); let Y := deS (s); let ak := List.length Y; let q := AV.any;(Q (t - E) ∧ Q (t - E) ∧ (St.mk [aa, q, q, q, q, P, q, S u, y (t - E), y (t - E), q, q, q, q, q, q, q, q, q, q, q, q, q, q, q, q, q, q, q, q, q, q, q, q, q, q, q, q, q, q, q, q, q, q, q, q, q, q, q, q, q, q, q, q, q, q, q, q, q, q, q, q] [some z, some (ab (45 : Nat) (6 : Nat) true ai), some (ab (3 : Nat) H true [])] = al13St F l J an ∧ ar an) ∧ ∀ (a : Nat × Nat × List Nat), let ao := a.1 - H; let aj := am13St F l J a; let W := at' l (iz13 a); let M := Prod.snd a; let ad := F (rvN M.2); let T := F (rvN (iz13 a :: M.2)); let G := (↑a.1 : Int); let av := G - E == (↑M.1 : Int) - E; let au := Decidable.decide (G - E ≥ ac); let aq := y (G - E); let ap := G - E - E; let V := Int.toNat (G - E); let U := ac ≤ G - E ∧ G - E < (↑(C) : Int); let R := Blk.read Proofs.Try.prog z (4 : Nat) (u + V) (u + u) = some (AV.bool W.1); let B := Sl.e W; let x := List.length M.2; let al := x + H; let I := List.take (x) (List.drop u ad); let ay := deN (I); let af := List.map wrE (enW Y J (rvN ay) (V)); let D := List.take al (List.drop u (T)); let az := deN (D); let ae := List.map wrE (enW Y J (rvN az) (V)); let r := [some z, some L, some (ab (3 : TypeId) H true (T))]; ar a → (au = true → (av = true → (al * (8 : Nat) ≤ (140737488355328 : Nat) ∧ x + H ≤ (9223372036854775807 : Nat) ∧ u + H ≤ List.length [aq] ∧ x ≤ List.length ad) ∧ List.take (x) ad ++ [aq] = T ∧ (St.mk [aa, q, q, q, q, P, q, S al, y (-1 : Int), aq, y ac, q, q, q, q, q, q, q, q, q, q, q, q, q, q, q, q, q, q, q, q, q, q, q, q, q, q, q, q, q, q, q, q, q, q, q, q, q, q, q, q, q, q, q, q, q, q, q, q, q, q, q] [some z, some L, some (ab (3 : Nat) H true (T))] = aj u ∧ Nat.le u ao) ∧ ∀ (b : Nat), let aA := at' l b; let am := y ((↑(gpP l (bfS B) b) : Int) - E); let O := (↑b : Int); let aB := O + E; let ax := Decidable.decide (O < G - E); let aw := ac ≤ O ∧ O < (↑(C) : Int); let K := Sl.e aA; let X := abE (En.mk K.1 K.2 K.3 K.4 K.5 K.6) (En.mk B.1 B.2 B.3 B.4 B.5 B.6); let A := St.mk [aa, q, q, q, q, P, q, S al, am, aq, y aB, q, q, q, q, q, q, q, q, q, q, q, q, q, q, q, q, q, q, q, q, q, q, q, q, q, q, q, q, q, q, q, q, q, q, q, q, q, q, q, q, q, q, q, q, q, q, q, q, q, q, q] r; Nat.le b ao → (ax = true → aw ∧ Blk.read Proofs.Try.prog z (4 : Nat) (u + Int.toNat O) (u + u) = some (AV.bool aA.1) ∧ (aA.1 = true → aw ∧ Blk.read Proofs.Try.prog z (45 : Nat) (u + Int.toNat O) (u + H) = some (AV.agg [Z K.1, Z K.2, Z K.3, Z K.4, y K.5, y K.6]) ∧ U ∧ Blk.read Proofs.Try.prog z (45 : Nat) (u + V) (u + H) = some (AV.agg [Z B.1, Z B.2, Z B.3, Z B.4, y B.5, y B.6]) ∧ (X = true → Q aB ∧ ∃ (c : Nat), St.mk [aa, q, q, q, q, P, q, S al, y O, aq, y aB, q, q, q, q, q, q, q, q, q, q, q, q, q, q, q, q, q, q, q, q, q, q, q, q, q, q, q, q, q, q, q, q, q, q, q, q, q, q, q, q, q, q, q, q, q, q, q, q, q, q, q] r = aj c ∧ Nat.le c ao ∧ a.1 - c < a.1 - b) ∧ (X = false → Q aB ∧ ∃ (d : Nat), A = aj d ∧ Nat.le d ao ∧ a.1 - d < a.1 - b)) ∧ (aA.1 = false → Q aB ∧ ∃ (e : Nat), A = aj e ∧ Nat.le e ao ∧ a.1 - e < a.1 - b)) ∧ (ax = false → U ∧ R ∧ ((!W.1) = true → u + C ≤ C ∧ u + al ≤ List.length (T) ∧ s = ah Y ∧ ak ≤ ag ∧ D = List.map nE az ∧ List.length az ≤ ag ∧ ((∀ (f : Nat), List.Mem f az → f < ak) ∧ ac ≤ G - E) ∧ List.length ae = List.length es ∧ some (N ae) = some (N es)) ∧ ((!W.1) = false → Q ap ∧ ∃ (g : Nat × Nat × List Nat), St.mk [aa, q, q, q, q, P, q, S al, am, y ap, q, q, q, q, q, q, q, q, q, q, q, q, q, q, q, q, q, q, q, q, q, q, q, q, q, q, q, q, q, q, q, q, q, q, q, q, q, q, q, q, q, q, q, q, q, q, q, q, q, q, q, q] r = al13St F l J g ∧ ar g ∧ g.1 < a.1))) ∧ (av = false → U ∧ R ∧ ((!W.1) = true → u + C ≤ C ∧ u + x ≤ List.length ad ∧ s = ah Y ∧ ak ≤ ag ∧ I = List.map nE ay ∧ List.length ay ≤ ag ∧ ((∀ (h : Nat), List.Mem h ay → h < ak) ∧ ac ≤ G - E) ∧ List.length af = List.length es ∧ some (N af) = some (N es)) ∧ ((!W.1) = false → Q ap ∧ ∃ (o : Nat × Nat × List Nat), St.mk [aa, q, q, q, q, P, q, S (x), y ((↑M.1 : Int) - E), y ap, q, q, q, q, q, q, q, q, q, q, q, q, q, q, q, q, q, q, q, q, q, q, q, q, q, q, q, q, q, q, q, q, q, q, q, q, q, q, q, q, q, q, q, q, q, q, q, q, q, q, q, q] [some z, some L, some (ab (3 : TypeId) H true ad)] = al13St F l J o ∧ ar o ∧ o.1 < a.1))) ∧ (au = false → es = []))) := by kernel_rfl

theorem rabove13Cs_ok : ∀ e ∈ rabove13Cs, SpecOK Try.prog e.1 e.2 := by
  intro e he
  simp only [rabove13Cs, List.mem_cons, List.not_mem_nil, or_false] at he
  rcases he with rfl | rfl
  · exact rabove_ok
  · exact rend13_ok

theorem rabove13_ok : SpecOK Try.prog 57 (genSpec [pRefS, none, none] rabove13F) := by
  refine genSpec_ok (run_ok (l := rabove13Cs) rabove13Cs_ok mixed noNG) fun l R hF => ?_
  unfold rabove13F at hF
  split at hF
  · rename_i r_l t v w m n k j
    obtain ⟨hr_l, hl, hF⟩ := hF
    generalize deS r_l = l at hr_l hl hF
    subst hr_l
    obtain ⟨ht, hF⟩ := hF
    refine ⟨_, hF, trivial, (al13H (List.map nE) l t ⟨v, w, m, n, k, j⟩), ?_⟩
    show run rabove13Cs Try.prog _ [.vsl 0 0 (l.map slE).length, .int .i64 t, .agg [.w64 v, .w64 w, .w64 m, .w64 n, .int .i64 k, .int .i64 j]] [some ⟨false, (pRefS.getD (0, 0)).1, (pRefS.getD (0, 0)).2, true, (l.map slE)⟩] _ _
    rw [rabove13_run]; (conv => zeta)
    generalize hx : (⟨v, w, m, n, k, j⟩ : En) = x
    obtain ⟨ht0, ht1⟩ := ht
    have hlm : (l.map slE).length = l.length := List.length_map _
    have lN : ∀ L : List Nat, (List.map nE L).length = L.length := fun L => List.length_map _
    have lR : ∀ L : List Nat, (rvN L).length = L.length := fun L => by unfold rvN; rw [List.length_reverse]
    have tR : ∀ L : List Nat, List.take L.length (List.drop 0 (List.map nE (rvN L))) = List.map nE (rvN L) := fun L => take_all (lR L)
    refine ⟨inR (by omega) (by omega), inR (by omega) (by omega), ⟨?_, by show t.toNat ≤ l.length; omega, fun i hi => absurd hi List.not_mem_nil, by show 0 + t.toNat ≤ l.length; omega, rfl⟩, ?_⟩
    · unfold al13St ex13R
      dsimp only
      rw [Int.toNat_of_nonneg ht0, ← hx]; rfl
    rintro ⟨g, a, r⟩ ⟨hg, hr, hrl, hI⟩
    dsimp only at hg hr hrl hI ⊢
    refine ⟨fun hlt => ?_, fun hge => ?_⟩
    · have hlt : 0 < g := by have := of_decide_eq_true hlt; omega
      obtain ⟨f, rfl⟩ : ∃ f, g = f + 1 := ⟨g - 1, by omega⟩
      have ei : iz13 (f + 1, a, r) = f := rfl
      simp only [ei]
      have e1 : ((f + 1 : Nat) : Int) - 1 = (f : Int) := by omega
      have bw : avC l x (f + 1) a r = if f + 1 = a then (if (at' l f).ok then avC l x f (gpP l (bfS (at' l f).e) f) (f :: r) else enW l x (f :: r) f) else (if (at' l f).ok then avC l x f a r else enW l x r f) := rfl
      rw [e1]
      have hf : f < l.length := by omega
      have Bi : 0 ≤ (f : Int) ∧ (f : Int) < ((l.map slE).length : Int) := by omega
      have rO : (Blk.mk false 78 7 true (l.map slE)).read Try.prog 4 (0 + Int.toNat (f : Int)) (0 + 0) = some (.bool (at' l f).ok) := read_rows Bi.1 Bi.2 (by rw [Int.toNat_natCast]; exact sl_ok _)
      have i0 : inRange .i64 ((f : Int) - 1) := inR (by omega) (by omega)
      have hrn : ∀ j ∈ rvN r, j < l.length := fun j hj => hr j (by unfold rvN at hj; exact List.mem_reverse.1 hj)
      refine ⟨fun hia => ?_, fun hia => ?_⟩
      · have hia : f + 1 = a := by have := eq_of_beq hia; omega
        have hr2 : ∀ j ∈ f :: r, j < l.length := fun j hj => (List.mem_cons.1 hj).elim (fun e => e ▸ hf) (hr j)
        have hrn2 : ∀ j ∈ rvN (f :: r), j < l.length := fun j hj => hr2 j (by unfold rvN at hj; exact List.mem_reverse.1 hj)
        rw [if_pos hia] at bw
        refine ⟨⟨by omega, by omega, Nat.le_refl _, by rw [lN, lR]; exact Nat.le_refl _⟩, ?_, ⟨?_, Nat.zero_le _⟩, ?_⟩
        · rw [List.take_of_length_le (by rw [lN, lR]; exact Nat.le_refl _)]
          show _ = List.map nE (List.reverse (_ :: r))
          rw [List.reverse_cons, List.map_append]; rfl
        · unfold am13St ex13R gpP
          dsimp only
          rw [e1, ← hx]; rfl
        intro d (hd0 : d ≤ f)
        refine ⟨fun hlt2 => ?_, fun hge2 => ?_⟩
        · have hd : d < f := by have := of_decide_eq_true hlt2; omega
          have Bd : 0 ≤ (d : Int) ∧ (d : Int) < ((l.map slE).length : Int) := by omega
          have g1 : gpP l (bfS (at' l f).e) (d + 1) = if bfS (at' l f).e (at' l d) then d + 1 else gpP l (bfS (at' l f).e) d := rfl
          have i2 : inRange .i64 ((d : Int) + 1) := inR (by omega) (by omega)
          have e2 : ((d + 1 : Nat) : Int) - 1 = (d : Int) := by omega
          have hm : f + 1 - (d + 1) < f + 1 - d := by omega
          refine ⟨Bd, read_rows Bd.1 Bd.2 (by rw [Int.toNat_natCast]; exact sl_ok _), fun h1 => ⟨Bd, read_rows Bd.1 Bd.2 (by rw [Int.toNat_natCast]; exact rsl_entry _), Bi, read_rows Bi.1 Bi.2 (by rw [Int.toNat_natCast]; exact rsl_entry _), fun h2 => ?_, fun h2 => ?_⟩, fun h1 => ?_⟩
          · have h : bfS (at' l f).e (at' l d) = true := by
              unfold bfS
              rw [show (at' l d).ok = true from h1]
              exact h2
            rw [h, if_pos rfl] at g1
            exact ⟨i2, d + 1, by unfold am13St ex13R; dsimp only; rw [ei, g1, e1, e2, ← hx]; rfl, hd, hm⟩
          · have h : bfS (at' l f).e (at' l d) = false := by
              unfold bfS
              rw [show (at' l d).ok = true from h1]
              exact h2
            rw [h, if_neg (by simp)] at g1
            exact ⟨i2, d + 1, by unfold am13St ex13R; dsimp only; rw [ei, g1, e1, ← hx]; rfl, hd, hm⟩
          · have h : bfS (at' l f).e (at' l d) = false := bf_none h1
            rw [h, if_neg (by simp)] at g1
            exact ⟨i2, d + 1, by unfold am13St ex13R; dsimp only; rw [ei, g1, e1, ← hx]; rfl, hd, hm⟩
        · have hd : d = f := by have := of_decide_eq_false hge2; omega
          subst hd
          have t1 := tR (d :: r)
          rw [List.length_cons] at t1
          simp only [t1, deN_map, whole_row, deS_map, lN, lR, List.length_cons, zLe, true_and, eq_self, hl, rvN_rvN]
          refine ⟨Bi, rO, fun ho => ⟨by omega, ⟨hrn2, Bi.1⟩, ?_⟩, fun ho => ⟨i0, (d, gpP l (bfS (at' l d).e) d, d :: r), ?_, ⟨by omega, hr2, by show r.length + 1 + d ≤ l.length; omega, ?_⟩, by omega⟩⟩
          · rw [if_neg (by simpa using ho)] at bw
            rw [← hI, bw, Int.toNat_natCast, ← hx]
            exact ⟨rfl, rfl⟩
          · unfold al13St ex13R
            dsimp only
            rw [← hx]; rfl
          · rw [if_pos (by simpa using ho)] at bw
            rw [← hI, bw]
      · have hia : f + 1 ≠ a := by intro e; rw [← e, e1] at hia; simp at hia
        rw [if_neg hia] at bw
        simp only [tR, deN_map, whole_row, deS_map, lN, lR, zLe, true_and, eq_self, hl, rvN_rvN]
        refine ⟨Bi, rO, fun ho => ⟨by omega, ⟨hrn, Bi.1⟩, ?_⟩, fun ho => ⟨i0, (f, a, r), ?_, ⟨by omega, hr, by show r.length + f ≤ l.length; omega, ?_⟩, by omega⟩⟩
        · rw [if_neg (by simpa using ho)] at bw
          rw [← hI, bw, Int.toNat_natCast, ← hx]
          exact ⟨rfl, rfl⟩
        · unfold al13St ex13R
          dsimp only
          rw [← hx]; rfl
        · rw [if_pos (by simpa using ho)] at bw
          rw [← hI, bw]
    · have hg : g = 0 := by have := of_decide_eq_false hge; omega
      subst hg
      rw [← hI]; rfl
  · exact hF.elim


end Go.Proofs.Ytcabofadpheomaa.L1
end

section
/-
  Layer 13: the document's Insert.
-/
namespace Go.Proofs.Ytcabofadpheomaa.L1
open Go.Sx Go.Sx.M

def in13St (l : List Sl) (x : En) (i : Nat) : St := ⟨[.vsl 0 0 (l.map slE).length, .any, .any, .ptr 1 0 0 true, .any, .any, .int .i64 (gfC l x), .int .i64 (gtC l x), .int .i64 i, .any, .any, .any, .any, .any, .any, .any, .any, .any, .any, .any, .any, .any, .any, .any, .any, .any, .any, .any, .any, .any, .any, .any, .any, .any, .any, .any, .any, .any, .any, .any, .any, .any, .any, .any, .any, .any, .any, .any, .any, .any, .any, .any, .any, .any, .any, .any, .any, .any, .any, .any, .any, .any, .any, .any, .any, .any, .any, .any, .any, .any, .any, .any, .any, .any, .any, .any, .any, .any], [rs13R l, ex13R x]⟩
def in13M : Modes := ⟨[1, 0, 0, 1, 0, 0, 1, 1, 1, 0, 0, 0, 0, 0, 0, 0, 0, 0, 0, 0, 0, 0, 0, 0, 0, 0, 0, 0, 0, 0, 0, 0, 0, 0, 0, 0, 0, 0, 0, 0, 0, 0, 0, 0, 0, 0, 0, 0, 0, 0, 0, 0, 0, 0, 0, 0, 0, 0, 0, 0, 0, 0, 0, 0, 0, 0, 0, 0, 0, 0, 0, 0, 0, 0, 0, 0, 0, 0], [], [], [], []⟩
def in13M' : Modes := ⟨[1, 0, 0, 1, 1, 2, 1, 1, 0, 0, 0, 0, 0, 0, 0, 0, 0, 0, 0, 0, 0, 0, 0, 0, 0, 0, 0, 0, 0, 0, 0, 0, 0, 0, 0, 0, 0, 0, 0, 0, 0, 0, 0, 0, 0, 0, 0, 0, 0, 0, 0, 0, 0, 0, 0, 0, 0, 0, 0, 0, 0, 0, 0, 0, 0, 0, 0, 0, 0, 0, 0, 0, 0, 0, 0, 0, 0, 0], [], [], [], []⟩
def in13I (l : List Sl) (x : En) (i : Nat) : Prop := gfC l x ≤ i ∧ i ≤ gtC l x ∧ ∀ j, gfC l x ≤ j → j < i → (at' l j).ok = true
def in13H (l : List Sl) (x : En) : List Hint := [.fork [] [.fork [] [.fork [] [.linv _ (gfC l x) (in13St l x) (in13I l x) (fun i => l.length + 1 - i) in13M in13M in13M' (fun _ => [.fork [.fork [] [.br true]] [.br false, .fork [.fork [] []] []]]) fun i =>
  [.fork [.dy, .cell (.bool (at' l i).ok), .fork [] [.nw]] []]]]]]

def rinsert13F : List Arg → (Res → Prop) → Prop
  | [.row r_l, .v (.agg [.w64 v, .w64 w, .w64 m, .w64 n, .int .i64 k, .int .i64 j])], R => r_l = (deS r_l).map slE ∧ (deS r_l).length ≤ 1000000 ∧ R (.many [.vrow 85 8 ((wC (deS r_l) ⟨v, w, m, n, k, j⟩).map wrE), .v (.int .i64 (eC (deS r_l) ⟨v, w, m, n, k, j⟩))])
  | _, _ => False

noncomputable def rinsert13Cs : List (FuncId × Sx.Spec) := [(31, genSpec [none] erightF),
  (54, genSpec [pRefS, none] rgap13F),
  (38, genSpec [pRefE] rorderedF),
  (39, genSpec [pRefS] rentries8F),
  (55, genSpec [pRefS, pN, none, none] rend13F),
  (56, genSpec [pRefS, none, none] rbelow13F),
  (57, genSpec [pRefS, none, none] rabove13F)]

theorem rinsert13_run (l : List Sl) (v w m n : BitVec 64) (k j : Int) : run rinsert13Cs Try.prog 33 [.vsl 0 0 (l.map slE).length, .agg [.w64 v, .w64 w, .w64 m, .w64 n, .int .i64 k, .int .i64 j]] [some ⟨false, (pRefS.getD (0, 0)).1, (pRefS.getD (0, 0)).2, true, (l.map slE)⟩] (in13H l ⟨v, w, m, n, k, j⟩) (yields (.many [.vrow 85 8 ((wC l ⟨v, w, m, n, k, j⟩).map wrE), .v (.int .i64 (eC l ⟨v, w, m, n, k, j⟩))])) =
    (let R := AV.w64; let N := List.map slE l; let A := (0 : Int); let y := Blk.mk false (78 : TypeId) (7 : Nat) true N; let x := (0 : Nat); let Q := AV.ptr (x + (1 : Nat)) x x true; let s := Blk.mk true (85 : TypeId) (8 : Nat) true; let q := List.length N; let T := List.take (q) (List.drop x N); let S := x + q ≤ q; let o := AV.int IntKind.i64; let L := [AV.agg [R v, R w, R m, R n, o k, o j]]; let h := AV.any; let e := En.mk v w m n k j; let I := o (eC l e); let G := (↑(gfC l e) : Int); let E := (↑(gtC l e) : Int); let u := List.map wrE (wC l e); let U := List.length (u); let d := deS (T); let V := List.map enE (ensS d); let P := (↑(gfC d e) : Int); let O := List.length d; let M := Decidable.decide ((↑(gtC d e) : Int) < P); let F := List.length V; let z := O ≤ (1000000 : Nat); let t := T = List.map slE d; let r := List.take (F) (List.drop x V); let W := deE (r); let g := List.map wrE (avC d e (Int.toNat G) (Int.toNat G) []); let J := List.length g = U ∧ some (s g) = some (s (u)); let C := (↑(List.length g) : Int); let Y := Decidable.decide (C > A); let f := List.map wrE (bwC d e (O - Int.toNat E) (Int.toNat E) []); let K := List.length f = U ∧ some (s f) = some (s (u)); let B := (↑(List.length f) : Int); let Z := Decidable.decide (C < B);(((!rtE e) = true → u = [] ∧ o (1 : Int) = I ∧ True) ∧ ((!rtE e) = false → S ∧ t ∧ z ∧ S ∧ t ∧ z ∧ x + F ≤ F ∧ r = List.map enE W ∧ List.length W ≤ (9223372036854775807 : Nat) ∧ ((!orE W) = true → u = [] ∧ o (7 : Int) = I ∧ True) ∧ ((!orE W) = false → (M = true → u = [] ∧ o (7 : Int) = I ∧ True) ∧ (M = false → (St.mk [AV.vsl x x (q), h, h, Q, h, h, o P, o (↑(gtC d e) : Int), o P, h, h, h, h, h, h, h, h, h, h, h, h, h, h, h, h, h, h, h, h, h, h, h, h, h, h, h, h, h, h, h, h, h, h, h, h, h, h, h, h, h, h, h, h, h, h, h, h, h, h, h, h, h, h, h, h, h, h, h, h, h, h, h, h, h, h, h, h, h] [some y, some (Blk.mk true (45 : Nat) (6 : Nat) true L)] = in13St l e (gfC l e) ∧ in13I l e (gfC l e)) ∧ ∀ (a : Nat), let H := (↑a : Int); let X := Decidable.decide (H < E); let D := [AV.agg [o (↑(Int.toNat H) : Int), AV.bool true, R v, R w, R m, R n, o k, o j]]; in13I l e a → (X = true → (A ≤ H ∧ H < (↑(q) : Int)) ∧ Blk.read Proofs.Try.prog y (4 : Nat) (x + Int.toNat H) (x + x) = some (AV.bool (at' l a).1) ∧ ((!(at' l a).1) = true → S ∧ t ∧ z ∧ ([] : List AV) = [] ∧ List.length (deN []) ≤ (1000000 : Nat) ∧ ((∀ (b : Nat), List.Mem b (deN []) → b < O) ∧ A ≤ H) ∧ (List.length D = U ∧ some (s D) = some (s (u))) ∧ o A = I ∧ True) ∧ ((!(at' l a).1) = false → inRange IntKind.i64 (H + (1 : Int)) ∧ ∃ (c : Nat), St.mk [AV.vsl x x (q), h, h, Q, h, h, o G, o E, o (H + (1 : Int)), h, h, h, h, h, h, h, h, h, h, h, h, h, h, h, h, h, h, h, h, h, h, h, h, h, h, h, h, h, h, h, h, h, h, h, h, h, h, h, h, h, h, h, h, h, h, h, h, h, h, h, h, h, h, h, h, h, h, h, h, h, h, h, h, h, h, h, h, h] [some y, some (Blk.mk true (45 : TypeId) (6 : Nat) true L)] = in13St l e c ∧ in13I l e c ∧ List.length l + (1 : Nat) - c < List.length l + (1 : Nat) - a)) ∧ (X = false → S ∧ t ∧ z ∧ (A ≤ E ∧ E ≤ (↑(O) : Int)) ∧ S ∧ t ∧ z ∧ (A ≤ G ∧ G ≤ (↑(O) : Int)) ∧ ((B == A) = true → ((C == A) = true → u = [] ∧ o (3 : Int) = I ∧ True) ∧ ((C == A) = false → (B == A) = true ∧ J ∧ o A = I ∧ True)) ∧ ((B == A) = false → (B == A) = false ∧ (Y = true → (Z = true → J ∧ o A = I ∧ True) ∧ (Z = false → K ∧ o A = I ∧ True)) ∧ (Y = false → K ∧ o A = I ∧ True)))))))) := by kernel_rfl

theorem rinsert13Cs_ok : ∀ e ∈ rinsert13Cs, SpecOK Try.prog e.1 e.2 := by
  intro e he
  simp only [rinsert13Cs, List.mem_cons, List.not_mem_nil, or_false] at he
  rcases he with rfl | rfl | rfl | rfl | rfl | rfl | rfl
  · exact rright8_ok
  · exact rgap13_ok
  · exact rordered_ok
  · exact rentries8_ok
  · exact rend13_ok
  · exact rbelow13_ok
  · exact rabove13_ok

theorem rinsert13_ok : SpecOK Try.prog 33 (genSpec [pRefS, none] rinsert13F) := by
  refine genSpec_ok (run_ok (l := rinsert13Cs) rinsert13Cs_ok mixed noNG) fun l R hF => ?_
  unfold rinsert13F at hF
  split at hF
  · rename_i r_l v w m n k j
    obtain ⟨hr_l, hl, hF⟩ := hF
    generalize deS r_l = l at hr_l hl hF
    subst hr_l
    refine ⟨_, hF, rfl, (in13H l ⟨v, w, m, n, k, j⟩), ?_⟩
    show run rinsert13Cs Try.prog _ [.vsl 0 0 (l.map slE).length, .agg [.w64 v, .w64 w, .w64 m, .w64 n, .int .i64 k, .int .i64 j]] [some ⟨false, (pRefS.getD (0, 0)).1, (pRefS.getD (0, 0)).2, true, (l.map slE)⟩] _ _
    rw [rinsert13_run]; (conv => zeta)
    generalize hx : (⟨v, w, m, n, k, j⟩ : En) = x
    have hlm : (l.map slE).length = l.length := List.length_map _
    have lE : ∀ L : List En, (List.map enE L).length = L.length := fun L => List.length_map _
    have lW : ∀ L : List Wr, (List.map wrE L).length = L.length := fun L => List.length_map _
    have hE := ensS_length l
    simp only [whole_row, deS_map, deE_map, zLe, true_and, and_true, eq_self, hl]
    refine ⟨fun hr => ?_, fun hr => ⟨by omega, fun ho => ?_, fun ho => ⟨fun hg => ?_, fun hg => ?_⟩⟩⟩
    · have hr := notTT hr
      unfold wC eC
      rw [hr]; exact ⟨rfl, rfl⟩
    · have hr := notF hr
      have ho := notTT ho
      unfold wC eC okC
      rw [hr, ho]; exact ⟨rfl, rfl⟩
    · have hr := notF hr
      have ho := notF ho
      have hg := of_decide_eq_true hg
      unfold wC eC okC
      rw [hr, ho, decide_eq_false (by omega)]; exact ⟨rfl, rfl⟩
    have hr := notF hr
    have ho := notF ho
    have hg : gfC l x ≤ gtC l x := by have := of_decide_eq_false hg; omega
    have hk : okC l x = true := by unfold okC; rw [ho, decide_eq_true hg]; rfl
    have eW : wC l x = oC l x := by unfold wC; rw [hr, hk]; rfl
    have hf := (gfC_spec l x).1
    have ht := (gtC_spec l x).1
    have fin : ∀ W : List Wr, oC l x = W → W.length ≠ 0 → ((List.map wrE W).length = (List.map wrE (wC l x)).length ∧ some (Blk.mk true 85 8 true (List.map wrE W)) = some (Blk.mk true 85 8 true (List.map wrE (wC l x)))) ∧ AV.int .i64 0 = AV.int .i64 (eC l x) := by
      rintro W rfl hn
      have e0 : eC l x = 0 := by unfold eC; rw [hr, hk, if_neg hn]; rfl
      rw [eW, e0]
      exact ⟨⟨rfl, rfl⟩, rfl⟩
    refine ⟨⟨by unfold in13St ex13R; rw [← hx]; rfl, Nat.le_refl _, hg, fun j h1 h2 => absurd h2 (Nat.not_lt.2 h1)⟩, ?_⟩
    rintro i ⟨hi1, hi2, hI⟩
    refine ⟨fun hlt => ?_, fun hge => ?_⟩
    · have hi : i < gtC l x := by have := of_decide_eq_true hlt; omega
      have Bi : 0 ≤ (i : Int) ∧ (i : Int) < ((l.map slE).length : Int) := by omega
      refine ⟨Bi, read_rows Bi.1 Bi.2 (sl_ok _), fun hn => ⟨Nat.zero_le _, ⟨fun j hj => absurd hj List.not_mem_nil, Bi.1⟩, ?_⟩, fun hn => ⟨inR (by omega) (by omega), i + 1, by unfold in13St ex13R; rw [← hx]; rfl, ⟨by omega, hi, fun j h1 h2 => ?_⟩, by omega⟩⟩
      · have hn := notTT hn
        have e : inC l x = i := by
          unfold inC
          rcases geS_spec l (gtC l x - gfC l x) (gfC l x) with ⟨_, a⟩ | ⟨q, e, a, b, c, d⟩
          · rw [a i hi1 (by omega)] at hn; cases hn
          · rw [e]
            rcases Nat.lt_trichotomy q i with h | rfl | h
            · rw [hI q a h] at c; cases c
            · rfl
            · rw [d i hi1 h] at hn; cases hn
        have := fin [⟨i, ⟨true, x⟩⟩] (by unfold oC; rw [e, if_neg (by omega)]) (Nat.succ_ne_zero _)
        rw [← hx] at this ⊢
        exact this
      · have hn := notF hn
        rcases Nat.lt_or_ge j i with h | h
        · exact hI j h1 h
        · obtain rfl : j = i := by omega
          exact hn
    · have hi : i = gtC l x := by have := of_decide_eq_false hge; omega
      subst hi
      have eI : inC l x < 0 := by
        unfold inC
        rcases geS_spec l (gtC l x - gfC l x) (gfC l x) with ⟨e, _⟩ | ⟨q, e, a, b, c, _⟩
        · omega
        · rw [hI q a (by omega)] at c; cases c
      have eB : bwC l x (l.length - ((gtC l x : Nat) : Int).toNat) ((gtC l x : Nat) : Int).toNat [] = belC l x := by rw [Int.toNat_natCast]; rfl
      have eA : avC l x ((gfC l x : Nat) : Int).toNat ((gfC l x : Nat) : Int).toNat [] = abvC l x := by rw [Int.toNat_natCast]; rfl
      have eO : oC l x = if (belC l x).length = 0 ∨ 0 < (abvC l x).length ∧ (abvC l x).length < (belC l x).length then abvC l x else belC l x := by unfold oC; rw [if_pos eI]
      simp only [eB, eA, lW]
      refine ⟨⟨by omega, by omega⟩, ⟨by omega, by omega⟩, fun h1 => ⟨fun h2 => ?_, fun h2 => ⟨h1, ?_⟩⟩, fun h1 => ⟨h1, fun h2 => ⟨fun h3 => ?_, fun h3 => ?_⟩, fun h2 => ?_⟩⟩
      · have h1 : (belC l x).length = 0 := by have := eq_of_beq h1; omega
        have h2 : (abvC l x).length = 0 := by have := eq_of_beq h2; omega
        rw [if_pos (.inl h1)] at eO
        have e3 : eC l x = 3 := by unfold eC; rw [hr, hk, if_pos (show (oC l x).length = 0 by rw [eO]; exact h2)]; rfl
        rw [e3, eW, eO, List.length_eq_zero_iff.1 h2]
        exact ⟨rfl, rfl⟩
      · have h1 : (belC l x).length = 0 := by have := eq_of_beq h1; omega
        have h2 : (abvC l x).length ≠ 0 := by intro e; rw [e] at h2; simp at h2
        rw [if_pos (.inl h1)] at eO
        have := fin _ eO h2
        simpa only [lW] using this
      · have h1 : (belC l x).length ≠ 0 := by intro e; rw [e] at h1; simp at h1
        have h2 := of_decide_eq_true h2
        have h3 := of_decide_eq_true h3
        rw [if_pos (.inr ⟨by omega, by omega⟩)] at eO
        have := fin _ eO (by omega)
        simpa only [lW] using this
      · have h1 : (belC l x).length ≠ 0 := by intro e; rw [e] at h1; simp at h1
        have h3 := of_decide_eq_false h3
        rw [if_neg (fun h => h.elim h1 fun h => by omega)] at eO
        have := fin _ eO h1
        simpa only [lW] using this
      · have h1 : (belC l x).length ≠ 0 := by intro e; rw [e] at h1; simp at h1
        have h2 := of_decide_eq_false h2
        rw [if_neg (fun h => h.elim h1 fun h => by omega)] at eO
        have := fin _ eO h1
        simpa only [lW] using this
  · exact hF.elim


end Go.Proofs.Ytcabofadpheomaa.L1
end

