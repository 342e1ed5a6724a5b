/-
  Texts in one: L8T L8A L8B L8C L8P.
-/
import Derived.Test.YtcabofadpheomaaL5a
import Derived.Test.YtcabofadpheomaaMa

section
/-
  Layer 8: slots and writes as values of the calculus.
-/
namespace Go.Proofs.Ytcabofadpheomaa.L1
open Go.Sx Go.Sx.M

def cB : AV → Bool
  | .bool b => b
  | _ => false

/-- Its word. -/
def wdS (x : Sl) : AV := .agg [.w64 x.e.v, .w64 x.e.w, .w64 x.e.m, .w64 x.e.n]

/-- A slot's cells, a write's. -/
def slE (x : Sl) : AV := .agg [.bool x.ok, .w64 x.e.v, .w64 x.e.w, .w64 x.e.m, .w64 x.e.n, .int .i64 x.e.len, .int .i64 x.e.act]
def wrE (x : Wr) : AV := .agg [.int .i64 x.p, .bool x.s.ok, .w64 x.s.e.v, .w64 x.s.e.w, .w64 x.s.e.m, .w64 x.s.e.n, .int .i64 x.s.e.len, .int .i64 x.s.e.act]

def deS1 (x : AV) : Sl := ⟨cB (x.cells.getD 0 .any), ⟨cW (x.cells.getD 1 .any), cW (x.cells.getD 2 .any), cW (x.cells.getD 3 .any), cW (x.cells.getD 4 .any), cI (x.cells.getD 5 .any), cI (x.cells.getD 6 .any)⟩⟩
def deS (l : List AV) : List Sl := l.map deS1
theorem deS_map (l : List Sl) : deS (l.map slE) = l := by
  unfold deS
  rw [List.map_map]
  exact List.map_id l

def deW1 (x : AV) : Wr := ⟨cI (x.cells.getD 0 .any), ⟨cB (x.cells.getD 1 .any), ⟨cW (x.cells.getD 2 .any), cW (x.cells.getD 3 .any), cW (x.cells.getD 4 .any), cW (x.cells.getD 5 .any), cI (x.cells.getD 6 .any), cI (x.cells.getD 7 .any)⟩⟩⟩
def deW (l : List AV) : List Wr := l.map deW1
theorem deW_map (l : List Wr) : deW (l.map wrE) = l := by
  unfold deW
  rw [List.map_map]
  exact List.map_id l

def pSl : Par := some (66, 7)
def pWr : Par := some (68, 8)
def pRefS : Par := some (78, 7)
def pRefW : Par := some (85, 8)

theorem sl_whole (x : Sl) : partOf Try.prog 66 (slE x).cells 0 = some (slE x) := by kernel_rfl
theorem sl_ok (x : Sl) : partOf Try.prog 4 (slE x).cells 0 = some (.bool x.ok) := by kernel_rfl
theorem sl_word (x : Sl) : partOf Try.prog 43 (slE x).cells 1 = some (wdS x) := by kernel_rfl
theorem rsl_whole (x : Sl) : partOf Try.prog 78 (slE x).cells 0 = some (slE x) := by kernel_rfl
theorem rsl_entry (x : Sl) : partOf Try.prog 45 (slE x).cells 1 = some (enE x.e) := by kernel_rfl
theorem sl_act (x : Sl) : partOf Try.prog 3 (slE x).cells 6 = some (.int .i64 x.e.act) := by kernel_rfl
theorem wr_whole (x : Wr) : partOf Try.prog 68 (wrE x).cells 0 = some (wrE x) := by kernel_rfl
theorem rwr_whole (x : Wr) : partOf Try.prog 85 (wrE x).cells 0 = some (wrE x) := by kernel_rfl
theorem wr_at (x : Wr) : partOf Try.prog 3 (wrE x).cells 0 = some (.int .i64 x.p) := by kernel_rfl
theorem rwr_slot (x : Wr) : partOf Try.prog 78 (wrE x).cells 1 = some (slE x.s) := by kernel_rfl

/-- An element of a row is written. -/
theorem fit_rows {T : Type} [Inhabited T] {en : T → AV} {l : List T} {b : Bool} {ty : TypeId} {esz : Nat} {k : Int} {v : AV} (h0 : 0 ≤ k) (h1 : k < (l.length : Int)) (hf : fitElem (en (at' l k.toNat)) 0 v = true) :
    (Blk.mk b ty esz true (l.map en)).fits (0 + k.toNat) 0 v = true := by
  unfold Blk.fits
  rw [Nat.zero_add, List.getElem?_map, at_get (show k.toNat < l.length by omega)]
  exact hf

theorem wr_rows {T : Type} [Inhabited T] {en : T → AV} {l : List T} {b : Bool} {ty : TypeId} {esz : Nat} {k : Int} {x : T} {es : List AV} (h0 : 0 ≤ k) (h1 : k < (l.length : Int)) (hw : wrElem (en (at' l k.toNat)) 0 (en x) = en x) (he : (l.set k.toNat x).map en = es) :
    (Blk.mk b ty esz true (l.map en)).writes (0 + k.toNat) 0 (en x) es := by
  unfold Blk.writes Blk.write
  dsimp only
  rw [Nat.zero_add, List.getElem?_map, at_get (show k.toNat < l.length by omega), Option.map_some]
  dsimp only
  rw [hw, ← he, List.map_set]

theorem Sl_dec (cs : List Value) (h : fitsAll [.bool, .int .u64, .int .u64, .int .u64, .int .u64, .int .i64, .int .i64] cs) : ∃ x : Sl, (slE x).cells.length = 7 ∧ (slE x).sound = true ∧ AVRs [] (slE x).cells cs := by
  obtain ⟨y0, l0, rfl, e0, g⟩ := fits_cons h
  obtain ⟨b, rfl⟩ := e0
  obtain ⟨x, _, _, hx⟩ := En_dec _ g
  exact ⟨⟨b, x⟩, rfl, rfl, .cons (.bool _) hx⟩

end Go.Proofs.Ytcabofadpheomaa.L1
end

section
/-
  Layer 8: contracts of the document's Right, May, Apply, Entries, Find, Tell.
-/
namespace Go.Proofs.Ytcabofadpheomaa.L1
open Go.Sx Go.Sx.M

/-- Apply: the state of its loop. -/
def apSt (F : List Sl → List AV) (l : List Sl) (w : List Wr) (p : Nat) : St :=
  ⟨[.vsl 0 0 (l.map slE).length, .vsl 1 0 (w.map wrE).length, .any, .any, .any, .vsl 2 0 l.length, .int .i64 p, .any, .any, .any, .any, .any, .any, .any, .any, .any, .any, .any, .any, .any, .any, .any, .any, .any, .any, .any, .any, .any, .any, .any, .any, .any, .any, .any, .any, .any], [some ⟨false, 78, 7, true, l.map slE⟩, some ⟨false, 85, 8, true, w.map wrE⟩, some ⟨true, 78, 7, true, F (apL l (w.take p))⟩]⟩
def apM0 : Modes := ⟨[1, 1, 0, 0, 0, 1, 2, 0, 0, 0, 0, 0, 0, 0, 0, 0, 0, 0, 0, 0, 0, 0, 0, 0, 0, 0, 0, 0, 0, 0, 0, 0, 0, 0, 0, 0], [], [], [], []⟩
def apM : Modes := ⟨[1, 1, 0, 0, 0, 1, 1, 0, 0, 0, 0, 0, 0, 0, 0, 0, 0, 0, 0, 0, 0, 0, 0, 0, 0, 0, 0, 0, 0, 0, 0, 0, 0, 0, 0, 0], [], [], [], []⟩
def apH (F : List Sl → List AV) (l : List Sl) (w : List Wr) : List Hint := .rows (F l) :: [.linv _ 0 (apSt F l w) (fun p => p ≤ w.length) (fun p => w.length + 1 - p) apM0 apM apM (fun _ => []) fun p =>
  [.fork [.dy, .cell (wrE (at' w p)), .fork [.dy, .cell (.int .i64 (at' w p).p), .dy, .cell (slE (at' w p).s), .dy, .rows (F (apL l (w.take (p + 1)))), .nw] [.nw]] []]]

/-- Entries. -/
def enSt (F : List En → List AV) (l : List Sl) (p : Nat) : St :=
  ⟨[.vsl 0 0 (l.map slE).length, .any, .any, .vsl 1 0 (ensS (l.take p)).length, .int .i64 p, .any, .any, .any, .any, .any, .any, .any, .any, .any, .any, .any, .any, .any, .any, .any, .any, .any, .any, .any, .any], [some ⟨false, 78, 7, true, l.map slE⟩, some ⟨true, 45, 6, true, F (ensS (l.take p))⟩]⟩
def enM0 : Modes := ⟨[1, 0, 0, 1, 2, 0, 0, 0, 0, 0, 0, 0, 0, 0, 0, 0, 0, 0, 0, 0, 0, 0, 0, 0, 0], [], [], [], [(3, 45, 6)]⟩
def enM : Modes := ⟨[1, 0, 0, 1, 1, 0, 0, 0, 0, 0, 0, 0, 0, 0, 0, 0, 0, 0, 0, 0, 0, 0, 0, 0, 0], [], [], [], []⟩
def enH (F : List En → List AV) (l : List Sl) : List Hint := [.linv _ 0 (enSt F l) (fun p => p ≤ l.length) (fun p => l.length + 1 - p) enM0 enM enM (fun _ => []) fun p =>
  [.fork [.dy, .cell (.bool (at' l p).ok), .fork [.dy, .cell (enE (at' l p).e), .rows (F (ensS (l.take (p + 1)))), .nw] [.nw]] []]]

/-- Find. -/
def fnSt (l : List Sl) (a b : BitVec 64) (p : Nat) : St :=
  ⟨[.vsl 0 0 (l.map slE).length, .any, .any, .ptr 1 0 0 true, .any, .int .i64 p, .any, .any, .any, .any, .any, .any, .any, .any, .any, .any, .any, .any, .any, .any, .any, .any, .any, .any, .any, .any, .any, .any], [some ⟨false, 78, 7, true, l.map slE⟩, some ⟨true, 24, 2, true, [.agg [.w64 a, .w64 b]]⟩]⟩
def fnM0 : Modes := ⟨[1, 0, 0, 1, 0, 2, 0, 0, 0, 0, 0, 0, 0, 0, 0, 0, 0, 0, 0, 0, 0, 0, 0, 0, 0, 0, 0, 0], [], [], [], []⟩
def fnM : Modes := ⟨[1, 0, 0, 1, 0, 1, 0, 0, 0, 0, 0, 0, 0, 0, 0, 0, 0, 0, 0, 0, 0, 0, 0, 0, 0, 0, 0, 0], [], [], [], []⟩
def fnM' : Modes := ⟨[0, 0, 0, 0, 1, 0, 0, 0, 0, 0, 0, 0, 0, 0, 0, 0, 0, 0, 0, 0, 0, 0, 0, 0, 0, 0, 0, 0], [], [], [], []⟩
def fnI (l : List Sl) (a b : BitVec 64) (p : Nat) : Prop := p ≤ l.length ∧ ∀ j, j < p → mtS a b (at' l j) = false
def fnH (l : List Sl) (a b : BitVec 64) : List Hint := [.linv _ 0 (fnSt l a b) (fnI l a b) (fun p => l.length + 1 - p) fnM0 fnM fnM' (fun _ => []) fun p =>
  [.fork [.dy, .cell (.bool (at' l p).ok), .fork [.dy, .cell (wdS (at' l p)), .fork [] [.nw]] [.nw]] []]]

noncomputable def rright8Cs : List (FuncId × Sx.Spec) := [(50, genSpec [none, none, none] opF)]

theorem rright8_run (v w m n : BitVec 64) (k j : Int) (r : AV) : run rright8Cs Try.prog 31 [.agg [.w64 v, .w64 w, .w64 m, .w64 n, .int .i64 k, .int .i64 j]] [] [.fork [.fork [.fork [.fork [] []] []] []] []] (yields (.v r)) =
    (((opW (0 : Int) v m == v && opW (0 : Int) w n == w) = true → (Decidable.decide (k ≥ (0 : Int)) = true → (Decidable.decide (k ≤ (128 : Int)) = true → (Decidable.decide (j ≥ (1 : Int)) = true → AV.bool (Decidable.decide (j ≤ (255 : Int))) = r) ∧ (Decidable.decide (j ≥ (1 : Int)) = false → AV.bool false = r)) ∧ (Decidable.decide (k ≤ (128 : Int)) = false → AV.bool false = r)) ∧ (Decidable.decide (k ≥ (0 : Int)) = false → AV.bool false = r)) ∧ ((opW (0 : Int) v m == v && opW (0 : Int) w n == w) = false → AV.bool false = r)) := by kernel_rfl

theorem rright8Cs_ok : ∀ e ∈ rright8Cs, SpecOK Try.prog e.1 e.2 := by
  intro e he
  simp only [rright8Cs, List.mem_cons, List.not_mem_nil, or_false] at he
  rcases he with rfl
  · exact op_ok

theorem rright8_ok : SpecOK Try.prog 31 (genSpec [none] erightF) := by
  refine genSpec_ok (run_ok (l := rright8Cs) rright8Cs_ok mixed noNG) fun l R hF => ?_
  unfold erightF at hF
  split at hF
  · rename_i v w m n k j
    refine ⟨_, hF, rfl, [.fork [.fork [.fork [.fork [] []] []] []] []], ?_⟩
    show run rright8Cs Try.prog _ [.agg [.w64 v, .w64 w, .w64 m, .w64 n, .int .i64 k, .int .i64 j]] [] _ _
    rw [rright8_run]
    have e : rtE ⟨v, w, m, n, k, j⟩ = ((v &&& m == v && w &&& n == w) && (decide (k ≥ 0) && (decide (k ≤ 128) && (decide (j ≥ 1) && decide (j ≤ 255))))) := rfl
    rw [e]
    refine ⟨fun h => ⟨fun h1 => ⟨fun h2 => ⟨fun h3 => ?_, fun h3 => ?_⟩, fun h2 => ?_⟩, fun h1 => ?_⟩, fun h => ?_⟩
    all_goals
      have h : (v &&& m == v && w &&& n == w) = _ := h
      rw [h]
    · rw [h1, h2, h3]; rfl
    · rw [h1, h2, h3]; rfl
    · rw [h1, h2]; rfl
    · rw [h1]; rfl
    · rfl
  · exact hF.elim


def rmay8F : List Arg → (Res → Prop) → Prop
  | [.v (.agg [.int .i64 p, .bool o, .w64 v, .w64 w, .w64 m, .w64 n, .int .i64 k, .int .i64 j]), .v (.int .i64 z)], R => R (.v (.bool (mayS ⟨p, ⟨o, ⟨v, w, m, n, k, j⟩⟩⟩ z)))
  | _, _ => False

noncomputable def rmay8Cs : List (FuncId × Sx.Spec) := [(31, genSpec [none] erightF)]

theorem rmay8_run (p : Int) (o : Bool) (v w m n : BitVec 64) (k j z : Int) (r : AV) : run rmay8Cs Try.prog 63 [.agg [.int .i64 p, .bool o, .w64 v, .w64 w, .w64 m, .w64 n, .int .i64 k, .int .i64 j], .int .i64 z] [] [.fork [] [.fork [] [.fork [] [.fork [] []]]]] (yields (.v r)) =
    (let f := Decidable.decide (p ≥ z); let d := AV.bool false = r; let c := (0 : Int); let e := Decidable.decide (p < c); let b := BitVec.ofInt (64 : Nat) c; let a := o == false && (v == b && w == b && (m == b && n == b) && (k == c && j == c));((e = true → d) ∧ (e = false → (f = true → d) ∧ (f = false → (a = true → AV.bool true = r) ∧ (a = false → (o = true → AV.bool (rtE (En.mk v w m n k j)) = r) ∧ (o = false → d)))))) := by kernel_rfl

theorem rmay8Cs_ok : ∀ e ∈ rmay8Cs, SpecOK Try.prog e.1 e.2 := by
  intro e he
  simp only [rmay8Cs, List.mem_cons, List.not_mem_nil, or_false] at he
  rcases he with rfl
  · exact rright8_ok

theorem rmay8_ok : SpecOK Try.prog 63 (genSpec [none, none] rmay8F) := by
  refine genSpec_ok (run_ok (l := rmay8Cs) rmay8Cs_ok mixed noNG) fun l R hF => ?_
  unfold rmay8F at hF
  split at hF
  · rename_i p o v w m n k j z
    refine ⟨_, hF, rfl, [.fork [] [.fork [] [.fork [] [.fork [] []]]]], ?_⟩
    show run rmay8Cs Try.prog _ [.agg [.int .i64 p, .bool o, .w64 v, .w64 w, .w64 m, .w64 n, .int .i64 k, .int .i64 j], .int .i64 z] [] _ _
    rw [rmay8_run]; (conv => zeta)
    have hs : ∀ {x : Bool}, rtS ⟨o, ⟨v, w, m, n, k, j⟩⟩ = x → (0 ≤ p ∧ p < z) → AV.bool x = .bool (mayS ⟨p, ⟨o, ⟨v, w, m, n, k, j⟩⟩⟩ z) := fun h h2 => by rw [mayS_in h2, h]
    have hn : ¬ (0 ≤ p ∧ p < z) → AV.bool false = .bool (mayS ⟨p, ⟨o, ⟨v, w, m, n, k, j⟩⟩⟩ z) := fun h => by rw [mayS_not h]
    rw [eq_zS]
    refine ⟨fun h => hn ?_, fun h => ⟨fun h1 => hn ?_, fun h1 => ⟨fun h2 => hs ?_ ?_, fun h2 => ⟨fun h3 => hs ?_ ?_, fun h3 => hs ?_ ?_⟩⟩⟩⟩
    · have := of_decide_eq_true h; omega
    · have := of_decide_eq_true h1; omega
    · unfold rtS; rw [h2]; rfl
    · have := of_decide_eq_false h; have := of_decide_eq_false h1; omega
    · unfold rtS; rw [h2, h3]; simp
    · have := of_decide_eq_false h; have := of_decide_eq_false h1; omega
    · unfold rtS; rw [h2, h3]; rfl
    · have := of_decide_eq_false h; have := of_decide_eq_false h1; omega
  · exact hF.elim


def rapply8F : List Arg → (Res → Prop) → Prop
  | [.row r_l, .row r_w], R => r_l = (deS r_l).map slE ∧ (deS r_l).length ≤ 1000000 ∧ r_w = (deW r_w).map wrE ∧ (deW r_w).length ≤ 1000000 ∧ R (.vrow 78 7 ((apL (deS r_l) (deW r_w)).map slE))
  | _, _ => False

noncomputable def rapply8Cs : List (FuncId × Sx.Spec) := [(63, genSpec [none, none] rmay8F)]

theorem rapply8_run (l : List Sl) (w : List Wr) (F : List Sl → List AV) (es : List AV) : run rapply8Cs Try.prog 40 [.vsl 0 0 (l.map slE).length, .vsl 1 0 (w.map wrE).length] [some ⟨false, (pRefS.getD (0, 0)).1, (pRefS.getD (0, 0)).2, true, (l.map slE)⟩, some ⟨false, (pRefW.getD (0, 0)).1, (pRefW.getD (0, 0)).2, true, (w.map wrE)⟩] (apH F l w) (yields (.vrow 78 7 es)) =
    (let G := (7 : Nat); let E := AV.w64; let D := List.map slE l; let z := List.length l; let x := Blk.mk true (78 : TypeId) G true; let v := List.length (List.map wrE w); let s := List.length w; let r := (1 : Nat); let o := AV.int IntKind.i64; let n := Blk.mk false (78 : TypeId) G true D; let m := List.length D; let i := (0 : Nat); let h := AV.any; let f := Blk.mk false (85 : TypeId) (8 : Nat) true (List.map wrE w);(((i + m) * (56 : Nat) ≤ (140737488355328 : Nat) ∧ i + m ≤ (9223372036854775807 : Nat) ∧ i + m ≤ m ∧ i ≤ List.length ([] : List AV)) ∧ [] ++ List.take (m) (List.drop i D) = F l ∧ (St.mk [AV.vsl i i (m), AV.vsl (i + r) i v, h, h, h, AV.vsl (i + r + r) i (i + m), o (0 : Int), h, h, h, h, h, h, h, h, h, h, h, h, h, h, h, h, h, h, h, h, h, h, h, h, h, h, h, h, h] [some n, some f, some (Blk.mk true (78 : Nat) G true (F l))] = apSt F l w i ∧ Nat.le i (s)) ∧ ∀ (a : Nat), let A := F (apL l (List.take (a + r) w)); let u := at' w a; let t := (↑a : Int); let C := i + Int.toNat t; let B := inRange IntKind.i64 (t + (1 : Int)); let k := t < (↑v : Int); let y := (0 : Int) ≤ t ∧ k; let j := x (F (apL l (List.take a w))); let e := St.mk [AV.vsl i i (m), AV.vsl (i + r) i v, h, h, h, AV.vsl (i + r + r) i (z), o (t + (1 : Int)), h, h, h, h, h, h, h, h, h, h, h, h, h, h, h, h, h, h, h, h, h, h, h, h, h, h, h, h, h]; let d := Sl.e (Wr.s u); let q := mayS (Wr.mk u.1 (Sl.mk (Wr.s u).1 (En.mk d.1 d.2 d.3 d.4 d.5 d.6))) (↑(z) : Int); let g := AV.agg [AV.bool (Wr.s u).1, E d.1, E d.2, E d.3, E d.4, o d.5, o d.6]; Nat.le a (s) → (Decidable.decide (k) = true → y ∧ Blk.read Proofs.Try.prog f (85 : Nat) C i = some (AV.agg [o u.1, AV.bool (Wr.s u).1, E d.1, E d.2, E d.3, E d.4, o d.5, o d.6]) ∧ (q = true → y ∧ Blk.read Proofs.Try.prog f (3 : Nat) C (i + i) = some (o u.1) ∧ y ∧ Blk.read Proofs.Try.prog f (78 : Nat) C (i + r) = some g ∧ ((0 : Int) ≤ u.1 ∧ u.1 < (↑(z) : Int)) ∧ Blk.fits j (i + Int.toNat u.1) i g = true ∧ Blk.writes j (i + Int.toNat u.1) i g A ∧ B ∧ ∃ (b : Nat), e [some n, some f, some (Blk.mk true (nat_lit 78) G true A)] = apSt F l w b ∧ Nat.le b (s) ∧ s + r - b < s + r - a) ∧ (q = false → B ∧ ∃ (c : Nat), e [some n, some f, some j] = apSt F l w c ∧ Nat.le c (s) ∧ s + r - c < s + r - a)) ∧ (Decidable.decide (k) = false → z = List.length es ∧ some j = some (x es)))) := by kernel_rfl

theorem rapply8Cs_ok : ∀ e ∈ rapply8Cs, SpecOK Try.prog e.1 e.2 := by
  intro e he
  simp only [rapply8Cs, List.mem_cons, List.not_mem_nil, or_false] at he
  rcases he with rfl
  · exact rmay8_ok

theorem rapply8_ok : SpecOK Try.prog 40 (genSpec [pRefS, pRefW] rapply8F) := by
  refine genSpec_ok (run_ok (l := rapply8Cs) rapply8Cs_ok mixed noNG) fun l R hF => ?_
  unfold rapply8F at hF
  split at hF
  · rename_i r_l r_w
    obtain ⟨hr_l, hl, hF⟩ := hF
    generalize deS r_l = l at hr_l hl hF
    subst hr_l
    obtain ⟨hr_w, hw, hF⟩ := hF
    generalize deW r_w = w at hr_w hw hF
    subst hr_w
    refine ⟨_, hF, trivial, (apH (List.map slE) l w), ?_⟩
    show run rapply8Cs Try.prog _ [.vsl 0 0 (l.map slE).length, .vsl 1 0 (w.map wrE).length] [some ⟨false, (pRefS.getD (0, 0)).1, (pRefS.getD (0, 0)).2, true, (l.map slE)⟩, some ⟨false, (pRefW.getD (0, 0)).1, (pRefW.getD (0, 0)).2, true, (w.map wrE)⟩] _ _
    rw [rapply8_run]; (conv => zeta)
    have hlw : ∀ q, (apL l (w.take q)).length = l.length := fun q => apL_length _ _
    refine ⟨⟨by rw [List.length_map]; omega, by rw [List.length_map]; omega, by omega, Nat.zero_le _⟩, by rw [List.nil_append, whole_row], ⟨by unfold apSt; rw [List.length_map (f := slE), Nat.zero_add (l.length)]; rfl, Nat.zero_le _⟩, ?_⟩
    intro p (hp : p ≤ w.length)
    refine ⟨fun hlt => ?_, fun hge => ?_⟩
    · have hlt : p < w.length := by simp only [decide_eq_true_eq, List.length_map] at hlt; omega
      have B : 0 ≤ (p : Int) ∧ (p : Int) < ((w.map wrE).length : Int) := by rw [List.length_map]; omega
      have e : apL l (w.take (p + 1)) = apS (apL l (w.take p)) (at' w p) := by rw [take_one hlt, apL_snoc]
      refine ⟨B, read_rows B.1 B.2 (rwr_whole _), fun hm => ?_, fun hm => ?_⟩
      · have hm : mayS (at' w p) l.length = true := hm
        have hi := mayS_is hm
        have hi2 : (at' w p).p < ((apL l (w.take p)).length : Int) := by rw [hlw]; exact hi.2
        refine ⟨B, read_rows B.1 B.2 (wr_at _), B, read_rows B.1 B.2 (rwr_slot _), hi, fit_rows hi.1 hi2 rfl, wr_rows (x := (at' w p).s) hi.1 hi2 rfl ?_, inR (by omega) (by omega), p + 1, rfl, hlt, by omega⟩
        rw [e]
        unfold apS
        rw [hlw, if_pos hm]
      · have hm : mayS (at' w p) l.length = false := hm
        refine ⟨inR (by omega) (by omega), p + 1, ?_, hlt, by omega⟩
        have e2 : apL l (w.take (p + 1)) = apL l (w.take p) := by
          rw [e]; unfold apS; rw [hlw, hm]; rfl
        unfold apSt
        rw [e2]; rfl
    · have hp : p = w.length := by simp only [decide_eq_false_iff_not, List.length_map] at hge; omega
      subst hp
      rw [List.take_length, List.length_map, apL_length]
      exact ⟨rfl, rfl⟩
  · exact hF.elim


def rentries8F : List Arg → (Res → Prop) → Prop
  | [.row r_l], R => r_l = (deS r_l).map slE ∧ (deS r_l).length ≤ 1000000 ∧ R (.vrow 45 6 ((ensS (deS r_l)).map enE))
  | _, _ => False

theorem rentries8_run (l : List Sl) (F : List En → List AV) (es : List AV) : run [] Try.prog 39 [.vsl 0 0 (l.map slE).length] [some ⟨false, (pRefS.getD (0, 0)).1, (pRefS.getD (0, 0)).2, true, (l.map slE)⟩] (enH F l) (yields (.vrow 45 6 es)) =
    (let r := AV.int IntKind.i64; let n := List.length l; let m := (1 : Nat); let j := Blk.mk true (45 : TypeId) (6 : Nat) true; let i := (0 : Nat); let h := List.length (List.map slE l); let f := AV.any; let e := Blk.mk false (78 : TypeId) (7 : Nat) true (List.map slE l);((St.mk [AV.vsl i i h, f, f, AV.vsl (List.length [some e]) i i, r (0 : Int), f, f, f, f, f, f, f, f, f, f, f, f, f, f, f, f, f, f, f, f] ([some e] ++ [some (j [])]) = enSt F l i ∧ Nat.le i (n)) ∧ ∀ (a : Nat), let v := at' l a; let u := F (ensS (List.take (a + m) l)); let o := Sl.e v; let k := (↑a : Int); let t := k < (↑h : Int); let s := k + (1 : Int); let g := ensS (List.take a l); let q := List.length g; let d := AV.agg [AV.w64 o.1, AV.w64 o.2, AV.w64 o.3, AV.w64 o.4, r o.5, r o.6]; Nat.le a (n) → (Decidable.decide (t) = true → ((0 : Int) ≤ k ∧ t) ∧ Blk.read Proofs.Try.prog e (4 : Nat) (i + Int.toNat k) (i + i) = some (AV.bool v.1) ∧ (v.1 = true → ((0 : Int) ≤ k ∧ t) ∧ Blk.read Proofs.Try.prog e (45 : Nat) (i + Int.toNat k) (i + m) = some (d) ∧ ((q + m) * (48 : Nat) ≤ (140737488355328 : Nat) ∧ q + m ≤ (9223372036854775807 : Nat) ∧ i + m ≤ List.length [d] ∧ q ≤ List.length (F g)) ∧ List.take (q) (F g) ++ [d] = u ∧ inRange IntKind.i64 s ∧ ∃ (b : Nat), St.mk [AV.vsl i i h, f, f, AV.vsl (i + m) i (q + m), r s, f, f, f, f, f, f, f, f, f, f, f, f, f, f, f, f, f, f, f, f] [some e, some (Blk.mk true (45 : Nat) (6 : Nat) true (u))] = enSt F l b ∧ Nat.le b (n) ∧ n + m - b < n + m - a) ∧ (v.1 = false → inRange IntKind.i64 s ∧ ∃ (c : Nat), St.mk [AV.vsl i i h, f, f, AV.vsl (i + m) i (q), r s, f, f, f, f, f, f, f, f, f, f, f, f, f, f, f, f, f, f, f, f] [some e, some (j (F g))] = enSt F l c ∧ Nat.le c (n) ∧ n + m - c < n + m - a)) ∧ (Decidable.decide (t) = false → q = List.length es ∧ some (j (F g)) = some (j es)))) := by kernel_rfl

theorem rentries8_ok : SpecOK Try.prog 39 (genSpec [pRefS] rentries8F) := by
  refine genSpec_ok none_ok fun l R hF => ?_
  unfold rentries8F at hF
  split at hF
  · rename_i r_l
    obtain ⟨hr_l, hl, hF⟩ := hF
    generalize deS r_l = l at hr_l hl hF
    subst hr_l
    refine ⟨_, hF, trivial, (enH (List.map enE) l), ?_⟩
    show run [] Try.prog _ [.vsl 0 0 (l.map slE).length] [some ⟨false, (pRefS.getD (0, 0)).1, (pRefS.getD (0, 0)).2, true, (l.map slE)⟩] _ _
    rw [rentries8_run]; (conv => zeta)
    have hle : ∀ q, (ensS (l.take q)).length ≤ 1000000 := fun q => by have := ensS_length (l.take q); rw [List.length_take] at this; omega
    refine ⟨⟨rfl, Nat.zero_le _⟩, ?_⟩
    intro p (hp : p ≤ l.length)
    refine ⟨fun hlt => ?_, fun hge => ?_⟩
    · have hlt : p < l.length := by simp only [decide_eq_true_eq, List.length_map] at hlt; omega
      have B : 0 ≤ (p : Int) ∧ (p : Int) < ((l.map slE).length : Int) := by rw [List.length_map]; omega
      have e : ensS (l.take (p + 1)) = if (at' l p).ok then ensS (l.take p) ++ [(at' l p).e] else ensS (l.take p) := by rw [take_one hlt, ensS_snoc]
      refine ⟨B, read_rows B.1 B.2 (sl_ok _), fun ho => ?_, fun ho => ?_⟩
      · rw [ho, if_pos rfl] at e
        have := hle p
        refine ⟨B, read_rows B.1 B.2 (rsl_entry _), ⟨by omega, by omega, by simp, by rw [List.length_map]; exact Nat.le_refl _⟩, ?_, inR (by omega) (by omega), p + 1, ?_, hlt, by omega⟩
        · rw [List.take_of_length_le (by rw [List.length_map]; exact Nat.le_refl _), e, List.map_append]
          rfl
        · unfold enSt
          rw [e, List.length_append]
          rfl
      · rw [ho] at e
        refine ⟨inR (by omega) (by omega), p + 1, ?_, hlt, by omega⟩
        unfold enSt
        rw [e]; rfl
    · have hp : p = l.length := by simp only [decide_eq_false_iff_not, List.length_map] at hge; omega
      subst hp
      rw [List.take_length, List.length_map]
      exact ⟨rfl, rfl⟩
  · exact hF.elim


end Go.Proofs.Ytcabofadpheomaa.L1
end

section
/-
  Layer 8: contracts of the law's One, Of, Writes, Same.
-/
namespace Go.Proofs.Ytcabofadpheomaa.L1
open Go.Sx Go.Sx.M

def of8St (F : List Sl → List AV) (l : List Sl) (p : Nat) : St :=
  ⟨[.any, .any, .any, .vsl 1 0 p, .any, .any, .vsl 0 0 (l.map slE).length, .int .i64 (l.map slE).length, .int .i64 p, .any, .any, .any, .any, .any, .any, .any, .any, .any, .any], [some ⟨false, 66, 7, true, l.map slE⟩, some ⟨true, 78, 7, true, F (l.take p)⟩]⟩
def of8M0 : Modes := ⟨[0, 0, 0, 1, 0, 0, 1, 1, 2, 0, 0, 0, 0, 0, 0, 0, 0, 0, 0], [], [], [], [(3, 78, 7)]⟩
def of8M : Modes := ⟨[0, 0, 0, 1, 0, 0, 1, 1, 1, 0, 0, 0, 0, 0, 0, 0, 0, 0, 0], [], [], [], []⟩
def of8H (F : List Sl → List AV) (l : List Sl) : List Hint := [.linv _ 0 (of8St F l) (fun p => p ≤ l.length) (fun p => l.length + 1 - p) of8M0 of8M of8M (fun _ => []) fun p =>
  [.fork [.dy, .cell (slE (at' l p)), .rows (F (l.take (p + 1))), .nw] []]]

def ws8St (F : List Wr → List AV) (l : List Wr) (p : Nat) : St :=
  ⟨[.any, .any, .any, .vsl 1 0 p, .any, .any, .vsl 0 0 (l.map wrE).length, .int .i64 (l.map wrE).length, .int .i64 p, .any, .any, .any, .any, .any, .any, .any, .any, .any, .any, .any, .any, .any, .any], [some ⟨false, 68, 8, true, l.map wrE⟩, some ⟨true, 85, 8, true, F (l.take p)⟩]⟩
def ws8M0 : Modes := ⟨[0, 0, 0, 1, 0, 0, 1, 1, 2, 0, 0, 0, 0, 0, 0, 0, 0, 0, 0, 0, 0, 0, 0], [], [], [], [(3, 85, 8)]⟩
def ws8M : Modes := ⟨[0, 0, 0, 1, 0, 0, 1, 1, 1, 0, 0, 0, 0, 0, 0, 0, 0, 0, 0, 0, 0, 0, 0], [], [], [], []⟩
def ws8H (F : List Wr → List AV) (l : List Wr) : List Hint := [.linv _ 0 (ws8St F l) (fun p => p ≤ l.length) (fun p => l.length + 1 - p) ws8M0 ws8M ws8M (fun _ => []) fun p =>
  [.fork [.dy, .cell (wrE (at' l p)), .rows (F (l.take (p + 1))), .nw] []]]

def sm8St (l m : List Sl) (p : Nat) : St :=
  ⟨[.vsl 0 0 (l.map slE).length, .vsl 1 0 (m.map slE).length, .any, .any, .any, .any, .any, .any, .any, .any, .any, .any, .int .i64 (l.map slE).length, .int .i64 p, .any, .any, .any, .any, .any, .any, .any, .any, .any, .any, .any, .any, .any], [some ⟨false, 66, 7, true, l.map slE⟩, some ⟨false, 78, 7, true, m.map slE⟩]⟩
def sm8M0 : Modes := ⟨[1, 1, 0, 0, 0, 0, 0, 0, 0, 0, 0, 0, 1, 2, 0, 0, 0, 0, 0, 0, 0, 0, 0, 0, 0, 0, 0], [], [], [], []⟩
def sm8M : Modes := ⟨[1, 1, 0, 0, 0, 0, 0, 0, 0, 0, 0, 0, 1, 1, 0, 0, 0, 0, 0, 0, 0, 0, 0, 0, 0, 0, 0], [], [], [], []⟩
def sm8M' : Modes := ⟨[0, 0, 0, 0, 2, 0, 0, 0, 0, 0, 0, 0, 0, 0, 0, 0, 0, 0, 0, 0, 0, 0, 0, 0, 0, 0, 0], [], [], [], []⟩
def sm8I (l m : List Sl) (p : Nat) : Prop := p ≤ l.length ∧ ∀ j, j < p → at' l j = at' m j
def sm8H (l m : List Sl) : List Hint := [.fork [] [.linv _ 0 (sm8St l m) (sm8I l m) (fun p => l.length + 1 - p) sm8M0 sm8M sm8M' (fun _ => []) fun p =>
  [.fork [.dy, .cell (slE (at' l p)), .dy, .cell (slE (at' m p)), .fork [] [.nw]] []]]]

def one8F : List Arg → (Res → Prop) → Prop
  | [.v (.agg [.bool o, .w64 v, .w64 w, .w64 m, .w64 n, .int .i64 k, .int .i64 j])], R => R (.v (.agg [.bool o, .w64 v, .w64 w, .w64 m, .w64 n, .int .i64 k, .int .i64 j]))
  | _, _ => False

noncomputable def one8Cs : List (FuncId × Sx.Spec) := [(21, genSpec [none] one5F)]

theorem one8_run (o : Bool) (v w m n : BitVec 64) (k j : Int) (r : AV) : run one8Cs Try.prog 29 [.agg [.bool o, .w64 v, .w64 w, .w64 m, .w64 n, .int .i64 k, .int .i64 j]] [] [] (yields (.v r)) =
    (AV.agg [AV.bool o, AV.w64 v, AV.w64 w, AV.w64 m, AV.w64 n, AV.int IntKind.i64 k, AV.int IntKind.i64 j] = r) := by kernel_rfl

theorem one8Cs_ok : ∀ e ∈ one8Cs, SpecOK Try.prog e.1 e.2 := by
  intro e he
  simp only [one8Cs, List.mem_cons, List.not_mem_nil, or_false] at he
  rcases he with rfl
  · exact one5_ok

theorem one8_ok : SpecOK Try.prog 29 (genSpec [none] one8F) := by
  refine genSpec_ok (run_ok (l := one8Cs) one8Cs_ok mixed noNG) fun l R hF => ?_
  unfold one8F at hF
  split at hF
  · rename_i o v w m n k j
    refine ⟨_, hF, rfl, [], ?_⟩
    show run one8Cs Try.prog _ [.agg [.bool o, .w64 v, .w64 w, .w64 m, .w64 n, .int .i64 k, .int .i64 j]] [] _ _
    rw [one8_run]
    all_goals rfl
  · exact hF.elim


def of8F : List Arg → (Res → Prop) → Prop
  | [.row r_l], R => r_l = (deS r_l).map slE ∧ (deS r_l).length ≤ 1000000 ∧ R (.vrow 78 7 ((deS r_l).map slE))
  | _, _ => False

noncomputable def of8Cs : List (FuncId × Sx.Spec) := [(29, genSpec [none] one8F)]

theorem of8_run (l : List Sl) (F : List Sl → List AV) (es : List AV) : run of8Cs Try.prog 9 [.vsl 0 0 (l.map slE).length] [some ⟨false, (pSl.getD (0, 0)).1, (pSl.getD (0, 0)).2, true, (l.map slE)⟩] (of8H F l) (yields (.vrow 78 7 es)) =
    (let n := List.length l; let k := (1 : Nat); let i := Blk.mk true (78 : TypeId) (7 : Nat) true; let h := AV.int IntKind.i64; let g := (0 : Nat); let f := AV.any; let e := List.length (List.map slE l); let q := (↑e : Int); let d := Blk.mk false (66 : TypeId) (7 : Nat) true (List.map slE l);((St.mk [f, f, f, AV.vsl (List.length [some d]) g g, f, f, AV.vsl g g e, h q, h (0 : Int), f, f, f, f, f, f, f, f, f, f] ([some d] ++ [some (i [])]) = of8St F l g ∧ Nat.le g (n)) ∧ ∀ (a : Nat), let s := F (List.take (a + k) l); let o := F (List.take a l); let m := (↑a : Int); let r := Decidable.decide (m < q); let j := Sl.e (at' l a); let c := AV.agg [AV.bool (at' l a).1, AV.w64 j.1, AV.w64 j.2, AV.w64 j.3, AV.w64 j.4, h j.5, h j.6]; Nat.le a (n) → (r = true → ((0 : Int) ≤ m ∧ m < q) ∧ Blk.read Proofs.Try.prog d (66 : Nat) (g + Int.toNat m) g = some (c) ∧ ((a + k) * (56 : Nat) ≤ (140737488355328 : Nat) ∧ a + k ≤ (9223372036854775807 : Nat) ∧ g + k ≤ List.length [c] ∧ a ≤ List.length o) ∧ List.take a o ++ [c] = s ∧ inRange IntKind.i64 (m + (1 : Int)) ∧ ∃ (b : Nat), St.mk [f, f, f, AV.vsl (g + k) g (a + k), f, f, AV.vsl g g e, h q, h (m + (1 : Int)), f, f, f, f, f, f, f, f, f, f] [some d, some (Blk.mk true (78 : Nat) (7 : Nat) true (s))] = of8St F l b ∧ Nat.le b (n) ∧ n + k - b < n + k - a) ∧ (r = false → a = List.length es ∧ some (i o) = some (i es)))) := by kernel_rfl

theorem of8Cs_ok : ∀ e ∈ of8Cs, SpecOK Try.prog e.1 e.2 := by
  intro e he
  simp only [of8Cs, List.mem_cons, List.not_mem_nil, or_false] at he
  rcases he with rfl
  · exact one8_ok

theorem of8_ok : SpecOK Try.prog 9 (genSpec [pSl] of8F) := by
  refine genSpec_ok (run_ok (l := of8Cs) of8Cs_ok mixed noNG) fun l R hF => ?_
  unfold of8F at hF
  split at hF
  · rename_i r_l
    obtain ⟨hr_l, hl, hF⟩ := hF
    generalize deS r_l = l at hr_l hl hF
    subst hr_l
    refine ⟨_, hF, trivial, (of8H (List.map slE) l), ?_⟩
    show run of8Cs Try.prog _ [.vsl 0 0 (l.map slE).length] [some ⟨false, (pSl.getD (0, 0)).1, (pSl.getD (0, 0)).2, true, (l.map slE)⟩] _ _
    rw [of8_run]; (conv => zeta)
    have lt : ∀ p, p ≤ l.length → ((l.take p).map slE).length = p := fun p hp => by rw [List.length_map, List.length_take]; omega
    refine ⟨⟨rfl, Nat.zero_le _⟩, ?_⟩
    intro p (hp : p ≤ l.length)
    refine ⟨fun hlt => ?_, fun hge => ?_⟩
    · have hlt : p < l.length := by simp only [decide_eq_true_eq, List.length_map] at hlt; omega
      have B : 0 ≤ (p : Int) ∧ (p : Int) < ((l.map slE).length : Int) := by rw [List.length_map]; omega
      refine ⟨B, read_rows B.1 B.2 (sl_whole _), ⟨by omega, by omega, by simp, by rw [lt p hp]; omega⟩, ?_, inR (by omega) (by omega), p + 1, rfl, hlt, by omega⟩
      rw [List.take_of_length_le (by rw [lt p hp]; omega), List.take_add_one, at_get hlt, List.map_append]
      rfl
    · have hp : p = l.length := by simp only [decide_eq_false_iff_not, List.length_map] at hge; omega
      subst hp
      rw [List.take_length, List.length_map]
      exact ⟨rfl, rfl⟩
  · exact hF.elim


def writes8F : List Arg → (Res → Prop) → Prop
  | [.row r_l], R => r_l = (deW r_l).map wrE ∧ (deW r_l).length ≤ 1000000 ∧ R (.vrow 85 8 ((deW r_l).map wrE))
  | _, _ => False

noncomputable def writes8Cs : List (FuncId × Sx.Spec) := [(29, genSpec [none] one8F)]

theorem writes8_run (l : List Wr) (F : List Wr → List AV) (es : List AV) : run writes8Cs Try.prog 35 [.vsl 0 0 (l.map wrE).length] [some ⟨false, (pWr.getD (0, 0)).1, (pWr.getD (0, 0)).2, true, (l.map wrE)⟩] (ws8H F l) (yields (.vrow 85 8 es)) =
    (let n := List.length l; let k := (1 : Nat); let j := Blk.mk true (85 : TypeId) (8 : Nat) true; let i := (0 : Nat); let h := AV.int IntKind.i64; let f := AV.any; let e := List.length (List.map wrE l); let q := (↑e : Int); let d := Blk.mk false (68 : TypeId) (8 : Nat) true (List.map wrE l);((St.mk [f, f, f, AV.vsl (List.length [some d]) i i, f, f, AV.vsl i i e, h q, h (0 : Int), f, f, f, f, f, f, f, f, f, f, f, f, f, f] ([some d] ++ [some (j [])]) = ws8St F l i ∧ Nat.le i (n)) ∧ ∀ (a : Nat), let s := F (List.take (a + k) l); let o := F (List.take a l); let m := (↑a : Int); let r := Decidable.decide (m < q); let g := Sl.e (Wr.s (at' l a)); let c := AV.agg [h (at' l a).1, AV.bool (Wr.s (at' l a)).1, AV.w64 g.1, AV.w64 g.2, AV.w64 g.3, AV.w64 g.4, h g.5, h g.6]; Nat.le a (n) → (r = true → ((0 : Int) ≤ m ∧ m < q) ∧ Blk.read Proofs.Try.prog d (68 : Nat) (i + Int.toNat m) i = some (c) ∧ ((a + k) * (64 : Nat) ≤ (140737488355328 : Nat) ∧ a + k ≤ (9223372036854775807 : Nat) ∧ i + k ≤ List.length [c] ∧ a ≤ List.length o) ∧ List.take a o ++ [c] = s ∧ inRange IntKind.i64 (m + (1 : Int)) ∧ ∃ (b : Nat), St.mk [f, f, f, AV.vsl (i + k) i (a + k), f, f, AV.vsl i i e, h q, h (m + (1 : Int)), f, f, f, f, f, f, f, f, f, f, f, f, f, f] [some d, some (Blk.mk true (85 : Nat) (8 : Nat) true (s))] = ws8St F l b ∧ Nat.le b (n) ∧ n + k - b < n + k - a) ∧ (r = false → a = List.length es ∧ some (j o) = some (j es)))) := by kernel_rfl

theorem writes8Cs_ok : ∀ e ∈ writes8Cs, SpecOK Try.prog e.1 e.2 := by
  intro e he
  simp only [writes8Cs, List.mem_cons, List.not_mem_nil, or_false] at he
  rcases he with rfl
  · exact one8_ok

theorem writes8_ok : SpecOK Try.prog 35 (genSpec [pWr] writes8F) := by
  refine genSpec_ok (run_ok (l := writes8Cs) writes8Cs_ok mixed noNG) fun l R hF => ?_
  unfold writes8F at hF
  split at hF
  · rename_i r_l
    obtain ⟨hr_l, hl, hF⟩ := hF
    generalize deW r_l = l at hr_l hl hF
    subst hr_l
    refine ⟨_, hF, trivial, (ws8H (List.map wrE) l), ?_⟩
    show run writes8Cs Try.prog _ [.vsl 0 0 (l.map wrE).length] [some ⟨false, (pWr.getD (0, 0)).1, (pWr.getD (0, 0)).2, true, (l.map wrE)⟩] _ _
    rw [writes8_run]; (conv => zeta)
    have lt : ∀ p, p ≤ l.length → ((l.take p).map wrE).length = p := fun p hp => by rw [List.length_map, List.length_take]; omega
    refine ⟨⟨rfl, Nat.zero_le _⟩, ?_⟩
    intro p (hp : p ≤ l.length)
    refine ⟨fun hlt => ?_, fun hge => ?_⟩
    · have hlt : p < l.length := by simp only [decide_eq_true_eq, List.length_map] at hlt; omega
      have B : 0 ≤ (p : Int) ∧ (p : Int) < ((l.map wrE).length : Int) := by rw [List.length_map]; omega
      refine ⟨B, read_rows B.1 B.2 (wr_whole _), ⟨by omega, by omega, by simp, by rw [lt p hp]; omega⟩, ?_, inR (by omega) (by omega), p + 1, rfl, hlt, by omega⟩
      rw [List.take_of_length_le (by rw [lt p hp]; omega), List.take_add_one, at_get hlt, List.map_append]
      rfl
    · have hp : p = l.length := by simp only [decide_eq_false_iff_not, List.length_map] at hge; omega
      subst hp
      rw [List.take_length, List.length_map]
      exact ⟨rfl, rfl⟩
  · exact hF.elim


def same8F : List Arg → (Res → Prop) → Prop
  | [.row r_l, .row r_m], R => r_l = (deS r_l).map slE ∧ (deS r_l).length ≤ 9223372036854775807 ∧ r_m = (deS r_m).map slE ∧ (deS r_m).length ≤ 9223372036854775807 ∧ R (.v (.bool (decide ((deS r_l) = (deS r_m)))))
  | _, _ => False

noncomputable def same8Cs : List (FuncId × Sx.Spec) := [(29, genSpec [none] one8F)]

theorem same8_run (l m : List Sl) (r : AV) : run same8Cs Try.prog 14 [.vsl 0 0 (l.map slE).length, .vsl 1 0 (m.map slE).length] [some ⟨false, (pSl.getD (0, 0)).1, (pSl.getD (0, 0)).2, true, (l.map slE)⟩, some ⟨false, (pRefS.getD (0, 0)).1, (pRefS.getD (0, 0)).2, true, (m.map slE)⟩] (sm8H l m) (yields (.v r)) =
    (let u := AV.w64; let t := List.map slE; let q := Blk.mk false (78 : TypeId) (7 : Nat) true (t m); let o := Blk.mk false (66 : TypeId) (7 : Nat) true (t l); let k := (0 : Nat); let j := AV.int IntKind.i64; let i := List.length (t m); let w := AV.vsl (k + (1 : Nat)) k i; let h := [some o, some q]; let e := AV.any; let d := List.length (t l); let s := (↑d : Int);(((s != (↑i : Int)) = true → AV.bool false = r) ∧ ((s != (↑i : Int)) = false → (St.mk [AV.vsl k k d, w, e, e, e, e, e, e, e, e, e, e, j s, j (0 : Int), e, e, e, e, e, e, e, e, e, e, e, e, e] h = sm8St l m k ∧ sm8I l m k) ∧ ∀ (a : Nat), let n := (↑a : Int); let x := Decidable.decide (n < s); let g := Sl.e (at' m a); let f := Sl.e (at' l a); let c := !((at' l a).1 == (at' m a).1 && (f.1 == g.1 && f.2 == g.2 && (f.3 == g.3 && f.4 == g.4) && (f.5 == g.5 && f.6 == g.6))); sm8I l m a → (x = true → ((0 : Int) ≤ n ∧ n < s) ∧ Blk.read Proofs.Try.prog o (66 : Nat) (k + Int.toNat n) k = some (AV.agg [AV.bool (at' l a).1, u f.1, u f.2, u f.3, u f.4, j f.5, j f.6]) ∧ ((0 : Int) ≤ n ∧ n < (↑i : Int)) ∧ Blk.read Proofs.Try.prog q (78 : Nat) (k + Int.toNat n) k = some (AV.agg [AV.bool (at' m a).1, u g.1, u g.2, u g.3, u g.4, j g.5, j g.6]) ∧ (c = true → AV.bool false = r) ∧ (c = false → inRange IntKind.i64 (n + (1 : Int)) ∧ ∃ (b : Nat), St.mk [AV.vsl k k d, w, e, e, e, e, e, e, e, e, e, e, j s, j (n + (1 : Int)), e, e, e, e, e, e, e, e, e, e, e, e, e] h = sm8St l m b ∧ sm8I l m b ∧ List.length l + (1 : Nat) - b < List.length l + (1 : Nat) - a)) ∧ (x = false → AV.bool true = r)))) := by kernel_rfl

theorem same8Cs_ok : ∀ e ∈ same8Cs, SpecOK Try.prog e.1 e.2 := by
  intro e he
  simp only [same8Cs, List.mem_cons, List.not_mem_nil, or_false] at he
  rcases he with rfl
  · exact one8_ok

theorem same8_ok : SpecOK Try.prog 14 (genSpec [pSl, pRefS] same8F) := by
  refine genSpec_ok (run_ok (l := same8Cs) same8Cs_ok mixed noNG) fun l R hF => ?_
  unfold same8F at hF
  split at hF
  · rename_i r_l r_m
    obtain ⟨hr_l, hl, hF⟩ := hF
    generalize deS r_l = l at hr_l hl hF
    subst hr_l
    obtain ⟨hr_m, hm, hF⟩ := hF
    generalize deS r_m = m at hr_m hm hF
    subst hr_m
    refine ⟨_, hF, rfl, (sm8H l m), ?_⟩
    show run same8Cs Try.prog _ [.vsl 0 0 (l.map slE).length, .vsl 1 0 (m.map slE).length] [some ⟨false, (pSl.getD (0, 0)).1, (pSl.getD (0, 0)).2, true, (l.map slE)⟩, some ⟨false, (pRefS.getD (0, 0)).1, (pRefS.getD (0, 0)).2, true, (m.map slE)⟩] _ _
    rw [same8_run]; (conv => zeta)
    simp only [eq_Sl]
    refine ⟨fun h => ?_, fun h => ⟨⟨rfl, Nat.zero_le _, fun j hj => by omega⟩, ?_⟩⟩
    · have h : l.length ≠ m.length := by simp at h; omega
      rw [decide_eq_false fun e => h (by rw [e])]
    · have h : l.length = m.length := by simp at h; omega
      rintro p ⟨h1, h2⟩
      refine ⟨fun hlt => ?_, fun hge => ?_⟩
      · have hp : p < l.length := by simp only [decide_eq_true_eq, List.length_map] at hlt; omega
        have B : 0 ≤ (p : Int) ∧ (p : Int) < ((l.map slE).length : Int) := by rw [List.length_map]; omega
        have B2 : 0 ≤ (p : Int) ∧ (p : Int) < ((m.map slE).length : Int) := by rw [List.length_map]; omega
        refine ⟨B, read_rows B.1 B.2 (sl_whole _), B2, read_rows B2.1 B2.2 (rsl_whole _), fun hne => ?_, fun he => ⟨inR (by omega) (by omega), p + 1, rfl, ⟨by omega, up h2 ?_⟩, by omega⟩⟩
        · have hne : at' l p ≠ at' m p := by simpa using hne
          rw [decide_eq_false fun e => hne (by rw [e])]
        · simpa using he
      · have hp : p = l.length := by simp only [decide_eq_false_iff_not, List.length_map] at hge; omega
        subst hp
        rw [decide_eq_true (ext_at h h2)]
  · exact hF.elim


end Go.Proofs.Ytcabofadpheomaa.L1
end

section
/-
  Layer 8: what the contracts of calls on slots say.
-/
namespace Go.Proofs.Ytcabofadpheomaa.L1
open Go.Sx Go.Sx.M

def gmay8F : List Arg → (Res → Prop) → Prop
  | [.v (.agg [.int .i64 p, .bool o, .w64 v, .w64 w, .w64 m, .w64 n, .int .i64 k, .int .i64 j]), .v (.int .i64 z)], R => R (.v (.bool (mayS ⟨p, ⟨o, ⟨v, w, m, n, k, j⟩⟩⟩ z)))
  | _, _ => False

def gapply8F : List Arg → (Res → Prop) → Prop
  | [.row r_l, .row r_w], R => r_l = (deS r_l).map slE ∧ (deS r_l).length ≤ 1000000 ∧ r_w = (deW r_w).map wrE ∧ (deW r_w).length ≤ 1000000 ∧ R (.vrow 66 7 ((apL (deS r_l) (deW r_w)).map slE))
  | _, _ => False

def gentries8F : List Arg → (Res → Prop) → Prop
  | [.row r_l], R => r_l = (deS r_l).map slE ∧ (deS r_l).length ≤ 1000000 ∧ R (.vrow 29 6 ((ensS (deS r_l)).map enE))
  | _, _ => False

def gtell8F : List Arg → (Res → Prop) → Prop
  | [.row r_l, .v (.agg [.w64 a, .w64 b])], R => r_l = (deS r_l).map slE ∧ (deS r_l).length ≤ 9223372036854775807 ∧ R (.v (.int .i64 (tlS (deS r_l) a b)))
  | _, _ => False

def gfree8F : List Arg → (Res → Prop) → Prop
  | [.row r_l], R => r_l = (deS r_l).map slE ∧ (deS r_l).length ≤ 9223372036854775807 ∧ R (.v (.int .i64 (frS (deS r_l))))
  | _, _ => False

end Go.Proofs.Ytcabofadpheomaa.L1
end

section
/-
  Layer 8: contracts of the program's calls: May, the search, Tell, Free, Entries, Apply.
-/
namespace Go.Proofs.Ytcabofadpheomaa.L1
open Go.Sx Go.Sx.M

def find8F : List Arg → (Res → Prop) → Prop
  | [.row r_l, .v (.agg [.w64 a, .w64 b])], R => r_l = (deS r_l).map slE ∧ (deS r_l).length ≤ 9223372036854775807 ∧ R (.v (.tuple [.int .i64 (mx0 (fnS (deS r_l) a b)), .bool (decide (fnS (deS r_l) a b ≥ 0))]))
  | _, _ => False

def clone8F : List Arg → (Res → Prop) → Prop
  | [.row r_l], R => r_l = (deS r_l).map slE ∧ (deS r_l).length ≤ 1000000 ∧ R (.vrow 66 7 ((deS r_l).map slE))
  | _, _ => False

/-- The search: the closure that it makes; the state of slices.IndexFunc's loop. -/
def gfFn : AV := .func (.func 66) [] [.ptr 1 0 0 true]
def gfSt (l : List Sl) (a b : BitVec 64) (p : Nat) : St :=
  ⟨[.vsl 0 0 (l.map slE).length, gfFn, .any, .any, .any, .any, .any, .int .i64 (l.map slE).length, .int .i64 p, .any, .any, .any, .any, .any, .any, .any, .any, .any, .any], [some ⟨false, 66, 7, true, l.map slE⟩, some ⟨true, 25, 2, true, [.agg [.w64 a, .w64 b]]⟩]⟩
def gfM0 : Modes := ⟨[1, 1, 0, 0, 0, 0, 0, 1, 2, 0, 0, 0, 0, 0, 0, 0, 0, 0, 0], [], [], [], []⟩
def gfM : Modes := ⟨[1, 1, 0, 0, 0, 0, 0, 1, 1, 0, 0, 0, 0, 0, 0, 0, 0, 0, 0], [], [], [], []⟩
def gfM' : Modes := ⟨[0, 0, 0, 0, 2, 0, 0, 0, 0, 0, 0, 0, 0, 0, 0, 0, 0, 0, 0], [], [], [], []⟩
def gfH (l : List Sl) (a b : BitVec 64) : List Hint := [.linv _ 0 (gfSt l a b) (fnI l a b) (fun p => l.length + 1 - p) gfM0 gfM gfM' (fun _ => []) fun p =>
  [.fork [.dy, .cell (slE (at' l p)), .fork [.fork [] [.nw]] [.nw]] []]]

/-- Free. -/
def gcSt (l : List Sl) (p : Nat) : St :=
  ⟨[.any, .any, .any, .int .i64 (frS (l.take p)), .any, .any, .vsl 0 0 (l.map slE).length, .int .i64 (l.map slE).length, .int .i64 p, .any, .any, .any, .any, .any, .any, .any, .any, .any, .any], [some ⟨false, 66, 7, true, l.map slE⟩]⟩
def gcM0 : Modes := ⟨[0, 0, 0, 2, 0, 0, 1, 1, 2, 0, 0, 0, 0, 0, 0, 0, 0, 0, 0], [], [], [], []⟩
def gcM : Modes := ⟨[0, 0, 0, 1, 0, 0, 1, 1, 1, 0, 0, 0, 0, 0, 0, 0, 0, 0, 0], [], [], [], []⟩
def gcM' : Modes := ⟨[0, 0, 0, 1, 0, 0, 0, 0, 0, 0, 0, 0, 0, 0, 0, 0, 0, 0, 0], [], [], [], []⟩
def gcH (l : List Sl) : List Hint := [.linv _ 0 (gcSt l) (fun p => p ≤ l.length) (fun p => l.length + 1 - p) gcM0 gcM gcM' (fun _ => []) fun p =>
  [.fork [.dy, .cell (slE (at' l p)), .fork [.nw, .nw] [.nw]] []]]

/-- Entries. -/
def gnSt (F : List En → List AV) (l : List Sl) (p : Nat) : St :=
  ⟨[.any, .any, .any, .vsl 1 0 (ensS (l.take p)).length, .any, .any, .vsl 0 0 (l.map slE).length, .int .i64 (l.map slE).length, .int .i64 p, .any, .any, .any, .any, .any, .any, .any, .any, .any, .any, .any, .any], [some ⟨false, 66, 7, true, l.map slE⟩, some ⟨true, 29, 6, true, F (ensS (l.take p))⟩]⟩
def gnM0 : Modes := ⟨[0, 0, 0, 1, 0, 0, 1, 1, 2, 0, 0, 0, 0, 0, 0, 0, 0, 0, 0, 0, 0], [], [], [], [(3, 29, 6)]⟩
def gnM : Modes := ⟨[0, 0, 0, 1, 0, 0, 1, 1, 1, 0, 0, 0, 0, 0, 0, 0, 0, 0, 0, 0, 0], [], [], [], []⟩
def gnM' : Modes := ⟨[0, 0, 0, 1, 0, 0, 0, 0, 0, 0, 0, 0, 0, 0, 0, 0, 0, 0, 0, 0, 0], [], [], [], []⟩
def gnH (F : List En → List AV) (l : List Sl) : List Hint := [.linv _ 0 (gnSt F l) (fun p => p ≤ l.length) (fun p => l.length + 1 - p) gnM0 gnM gnM' (fun _ => []) fun p =>
  [.fork [.dy, .cell (slE (at' l p)), .fork [.rows (F (ensS (l.take (p + 1)))), .nw] [.nw]] []]]

/-- Apply. -/
def gaSt (F : List Sl → List AV) (l : List Sl) (w : List Wr) (p : Nat) : St :=
  ⟨[.any, .any, .any, .any, .any, .vsl 2 0 (F l).length, .any, .any, .any, .any, .vsl 1 0 (w.map wrE).length, .int .i64 (w.map wrE).length, .int .i64 p, .any, .any, .any, .any, .any, .any, .any, .any, .any, .any, .any, .any, .any, .any, .any], [some ⟨false, 66, 7, true, l.map slE⟩, some ⟨false, 68, 8, true, w.map wrE⟩, some ⟨true, 66, 7, true, F (apL l (w.take p))⟩]⟩
def gaM0 : Modes := ⟨[0, 0, 0, 0, 0, 1, 0, 0, 0, 0, 1, 1, 2, 0, 0, 0, 0, 0, 0, 0, 0, 0, 0, 0, 0, 0, 0, 0], [], [], [], []⟩
def gaM : Modes := ⟨[0, 0, 0, 0, 0, 1, 0, 0, 0, 0, 1, 1, 1, 0, 0, 0, 0, 0, 0, 0, 0, 0, 0, 0, 0, 0, 0, 0], [], [], [], []⟩
def gaM' : Modes := ⟨[0, 0, 0, 0, 0, 1, 0, 0, 0, 0, 0, 0, 0, 0, 0, 0, 0, 0, 0, 0, 0, 0, 0, 0, 0, 0, 0, 0], [], [], [], []⟩
def gaH (F : List Sl → List AV) (l : List Sl) (w : List Wr) : List Hint := [.nm (F l), .linv _ 0 (gaSt F l w) (fun p => p ≤ w.length) (fun p => w.length + 1 - p) gaM0 gaM gaM' (fun _ => []) fun p =>
  [.fork [.dy, .cell (wrE (at' w p)), .fork [.dy, .rows (F (apL l (w.take (p + 1)))), .nw] [.nw]] []]]

noncomputable def gmay8Cs : List (FuncId × Sx.Spec) := [(26, genSpec [none] erightF)]

theorem gmay8_run (p : Int) (o : Bool) (v w m n : BitVec 64) (k j z : Int) (r : AV) : run gmay8Cs Try.prog 44 [.agg [.int .i64 p, .bool o, .w64 v, .w64 w, .w64 m, .w64 n, .int .i64 k, .int .i64 j], .int .i64 z] [] [.fork [.fork [.fork [] [.fork [] []]] []] []] (yields (.v r)) =
    ((Decidable.decide ((0 : Int) ≤ p) = true → (Decidable.decide (p < z) = true → ((o == false && (v == BitVec.ofInt (64 : Nat) (0 : Int) && w == BitVec.ofInt (64 : Nat) (0 : Int) && (m == BitVec.ofInt (64 : Nat) (0 : Int) && n == BitVec.ofInt (64 : Nat) (0 : Int)) && (k == (0 : Int) && j == (0 : Int)))) = true → AV.bool true = r) ∧ ((o == false && (v == BitVec.ofInt (64 : Nat) (0 : Int) && w == BitVec.ofInt (64 : Nat) (0 : Int) && (m == BitVec.ofInt (64 : Nat) (0 : Int) && n == BitVec.ofInt (64 : Nat) (0 : Int)) && (k == (0 : Int) && j == (0 : Int)))) = false → (o = true → AV.bool (rtE (En.mk v w m n k j)) = r) ∧ (o = false → AV.bool false = r))) ∧ (Decidable.decide (p < z) = false → AV.bool false = r)) ∧ (Decidable.decide ((0 : Int) ≤ p) = false → AV.bool false = r)) := by kernel_rfl

theorem gmay8Cs_ok : ∀ e ∈ gmay8Cs, SpecOK Try.prog e.1 e.2 := by
  intro e he
  simp only [gmay8Cs, List.mem_cons, List.not_mem_nil, or_false] at he
  rcases he with rfl
  · exact eright_ok

theorem gmay8_ok : SpecOK Try.prog 44 (genSpec [none, none] gmay8F) := by
  refine genSpec_ok (run_ok (l := gmay8Cs) gmay8Cs_ok mixed noNG) fun l R hF => ?_
  unfold gmay8F at hF
  split at hF
  · rename_i p o v w m n k j z
    refine ⟨_, hF, rfl, [.fork [.fork [.fork [] [.fork [] []]] []] []], ?_⟩
    show run gmay8Cs Try.prog _ [.agg [.int .i64 p, .bool o, .w64 v, .w64 w, .w64 m, .w64 n, .int .i64 k, .int .i64 j], .int .i64 z] [] _ _
    rw [gmay8_run]
    have hs : ∀ {x : Bool}, rtS ⟨o, ⟨v, w, m, n, k, j⟩⟩ = x → (0 ≤ p ∧ p < z) → AV.bool x = .bool (mayS ⟨p, ⟨o, ⟨v, w, m, n, k, j⟩⟩⟩ z) := fun h h2 => by rw [mayS_in h2, h]
    have hn : ¬ (0 ≤ p ∧ p < z) → AV.bool false = .bool (mayS ⟨p, ⟨o, ⟨v, w, m, n, k, j⟩⟩⟩ z) := fun h => by rw [mayS_not h]
    rw [eq_zS]
    refine ⟨fun h => ⟨fun h1 => ?_, fun h1 => hn ?_⟩, fun h => hn ?_⟩
    · have h := of_decide_eq_true h
      have h1 := of_decide_eq_true h1
      refine ⟨fun h2 => hs ?_ ⟨h, h1⟩, fun h2 => ⟨fun h3 => hs ?_ ⟨h, h1⟩, fun h3 => hs ?_ ⟨h, h1⟩⟩⟩
      · unfold rtS; rw [h2]; rfl
      · unfold rtS; rw [h2, h3]; rfl
      · unfold rtS; rw [h2, h3]; rfl
    · have := of_decide_eq_false h1; omega
    · have := of_decide_eq_false h; omega
  · exact hF.elim


noncomputable def gfind8Cs : List (FuncId × Sx.Spec) := [(67, genSpec [none, none] wmatchF)]

theorem gfind8_run (l : List Sl) (a b : BitVec 64) (r : AV) : run gfind8Cs Try.prog 45 [.vsl 0 0 (l.map slE).length, .agg [.w64 a, .w64 b]] [some ⟨false, (pSl.getD (0, 0)).1, (pSl.getD (0, 0)).2, true, (l.map slE)⟩] (gfH l a b) (yields (.v r)) =
    (let A := fnI l a b; let w := AV.w64; let u := List.length l; let q := (1 : Nat); let o := (0 : Int); let m := (0 : Nat); let x := [AV.ptr (m + q) m m true]; let k := AV.int IntKind.i64; let j := AV.any; let i := Blk.mk false (66 : TypeId) (7 : Nat) true (List.map slE l); let h := List.length (List.map slE l); let s := (↑h : Int);((St.mk [AV.vsl m m h, AV.func (Fn.func (66 : Nat)) [] x, j, j, j, j, j, k s, k o, j, j, j, j, j, j, j, j, j, j] [some i, some (Blk.mk true (25 : Nat) (2 : Nat) true [AV.agg [w a, w b]])] = gfSt l a b m ∧ A m) ∧ ∀ (c : Nat), let y := at' l c; let n := (↑c : Int); let z := Decidable.decide (n < s); let t := inRange IntKind.i64 (n + (1 : Int)); let g := Sl.e y; let B := wmB g.1 g.2 g.3 g.4 a b; let f := St.mk [AV.vsl m m h, AV.func (Fn.func (66 : FuncId)) [] x, j, j, j, j, j, k s, k (n + (1 : Int)), j, j, j, j, j, j, j, j, j, j] [some i, some (Blk.mk true (25 : TypeId) (2 : Nat) true [AV.agg [w a, w b]])]; A c → (z = true → (o ≤ n ∧ n < s) ∧ Blk.read Proofs.Try.prog i (66 : Nat) (m + Int.toNat n) m = some (AV.agg [AV.bool y.1, w g.1, w g.2, w g.3, w g.4, k g.5, k g.6]) ∧ (y.1 = true → (B = true → AV.tuple [k (if o > n then o else n), AV.bool (Decidable.decide (n ≥ o))] = r) ∧ (B = false → t ∧ ∃ (d : Nat), f = gfSt l a b d ∧ A d ∧ u + q - d < u + q - c)) ∧ (y.1 = false → t ∧ ∃ (e : Nat), f = gfSt l a b e ∧ A e ∧ u + q - e < u + q - c)) ∧ (z = false → AV.tuple [k (if o > (-1 : Int) then o else (-1 : Int)), AV.bool (Decidable.decide ((-1 : Int) ≥ o))] = r))) := by kernel_rfl

theorem gfind8Cs_ok : ∀ e ∈ gfind8Cs, SpecOK Try.prog e.1 e.2 := by
  intro e he
  simp only [gfind8Cs, List.mem_cons, List.not_mem_nil, or_false] at he
  rcases he with rfl
  · exact wmatch_ok

theorem gfind8_ok : SpecOK Try.prog 45 (genSpec [pSl, none] find8F) := by
  refine genSpec_ok (run_ok (l := gfind8Cs) gfind8Cs_ok mixed noNG) fun l R hF => ?_
  unfold find8F at hF
  split at hF
  · rename_i r_l a b
    obtain ⟨hr_l, hl, hF⟩ := hF
    generalize deS r_l = l at hr_l hl hF
    subst hr_l
    refine ⟨_, hF, rfl, (gfH l a b), ?_⟩
    show run gfind8Cs Try.prog _ [.vsl 0 0 (l.map slE).length, .agg [.w64 a, .w64 b]] [some ⟨false, (pSl.getD (0, 0)).1, (pSl.getD (0, 0)).2, true, (l.map slE)⟩] _ _
    rw [gfind8_run]; (conv => zeta)
    refine ⟨⟨rfl, Nat.zero_le _, fun j hj => by omega⟩, ?_⟩
    rintro p ⟨h1, h2⟩
    refine ⟨fun hlt => ?_, fun hge => ?_⟩
    · have hp : p < l.length := by simp only [decide_eq_true_eq, List.length_map] at hlt; omega
      have B : 0 ≤ (p : Int) ∧ (p : Int) < ((l.map slE).length : Int) := by rw [List.length_map]; omega
      refine ⟨B, read_rows B.1 B.2 (sl_whole _), fun ho => ⟨fun hm => ?_, fun hm => ⟨inR (by omega) (by omega), p + 1, rfl, ⟨by omega, up h2 ?_⟩, by omega⟩⟩, fun ho => ⟨inR (by omega) (by omega), p + 1, rfl, ⟨by omega, up h2 ?_⟩, by omega⟩⟩
      · have hm : mtS a b (at' l p) = true := by unfold mtS; rw [ho]; exact hm
        rw [(fnS_spec l a b).uniq (.inr ⟨p, rfl, hp, hm, h2⟩)]
        rfl
      · unfold mtS; rw [ho]; exact hm
      · unfold mtS; rw [ho]; rfl
    · have hp : p = l.length := by simp only [decide_eq_false_iff_not, List.length_map] at hge; omega
      subst hp
      rw [(fnS_spec l a b).uniq (.inl ⟨rfl, h2⟩)]
      rfl
  · exact hF.elim


noncomputable def gtell8Cs : List (FuncId × Sx.Spec) := [(45, genSpec [pSl, none] find8F)]

theorem gtell8_run (l : List Sl) (a b : BitVec 64) (r : AV) : run gtell8Cs Try.prog 25 [.vsl 0 0 (l.map slE).length, .agg [.w64 a, .w64 b]] [some ⟨false, (pSl.getD (0, 0)).1, (pSl.getD (0, 0)).2, true, (l.map slE)⟩] [.fork [] [.dy, .cell (.int .i64 (at' l (fnS l a b).toNat).e.act)]] (yields (.v r)) =
    (let j := (0 : Nat); let i := List.map slE l; let g := AV.int IntKind.i64 (Sl.e (at' l (Int.toNat (fnS l a b)))).6; let d := List.length i; let c := List.take (d) (List.drop j i); let f := fnS (deS (c)) a b; let h := !Decidable.decide (f ≥ (0 : Int));(j + d ≤ d ∧ c = List.map slE (deS (c)) ∧ List.length (deS (c)) ≤ (9223372036854775807 : Nat) ∧ (h = true → AV.int IntKind.i64 (0 : Int) = r) ∧ (h = false → ((0 : Int) ≤ mx0 (f) ∧ mx0 (f) < (↑(d) : Int)) ∧ Blk.read Proofs.Try.prog (Blk.mk false (66 : TypeId) (7 : Nat) true i) (3 : Nat) (j + Int.toNat (mx0 (f))) (j + (1 : Nat) + (5 : Nat)) = some (g) ∧ g = r))) := by kernel_rfl

theorem gtell8Cs_ok : ∀ e ∈ gtell8Cs, SpecOK Try.prog e.1 e.2 := by
  intro e he
  simp only [gtell8Cs, List.mem_cons, List.not_mem_nil, or_false] at he
  rcases he with rfl
  · exact gfind8_ok

theorem gtell8_ok : SpecOK Try.prog 25 (genSpec [pSl, none] gtell8F) := by
  refine genSpec_ok (run_ok (l := gtell8Cs) gtell8Cs_ok mixed noNG) fun l R hF => ?_
  unfold gtell8F at hF
  split at hF
  · rename_i r_l a b
    obtain ⟨hr_l, hl, hF⟩ := hF
    generalize deS r_l = l at hr_l hl hF
    subst hr_l
    refine ⟨_, hF, rfl, [.fork [] [.dy, .cell (.int .i64 (at' l (fnS l a b).toNat).e.act)]], ?_⟩
    show run gtell8Cs Try.prog _ [.vsl 0 0 (l.map slE).length, .agg [.w64 a, .w64 b]] [some ⟨false, (pSl.getD (0, 0)).1, (pSl.getD (0, 0)).2, true, (l.map slE)⟩] _ _
    rw [gtell8_run]; (conv => zeta)
    rw [whole_row, deS_map]
    refine ⟨by omega, rfl, hl, fun h => ?_, fun h => ?_⟩
    · have h := of_decide_eq_false (notTT h)
      unfold tlS
      rw [if_pos (by omega)]
    · have h := of_decide_eq_true (notF h)
      have B : 0 ≤ fnS l a b ∧ fnS l a b < ((l.map slE).length : Int) := by
        rcases fnS_spec l a b with ⟨h1, _⟩ | ⟨i, h1, h2, _⟩
        · omega
        · rw [h1, List.length_map]; omega
      rw [mx0_of h]
      refine ⟨B, read_rows B.1 B.2 (sl_act _), ?_⟩
      unfold tlS
      rw [if_neg (by omega)]
  · exact hF.elim


theorem gfree8_run (l : List Sl) (r : AV) : run [] Try.prog 77 [.vsl 0 0 (l.map slE).length] [some ⟨false, (pSl.getD (0, 0)).1, (pSl.getD (0, 0)).2, true, (l.map slE)⟩] (gcH l) (yields (.v r)) =
    (let u := (1 : Nat); let o := inRange IntKind.i64; let k := (0 : Nat); let h := List.length l; let g := Blk.mk false (66 : TypeId) (7 : Nat) true (List.map slE l); let f := AV.int IntKind.i64; let e := AV.any; let d := List.length (List.map slE l); let q := (↑d : Int);((St.mk [e, e, e, f (0 : Int), e, e, AV.vsl k k d, f q, f (0 : Int), e, e, e, e, e, e, e, e, e, e] [some g] = gcSt l k ∧ Nat.le k (h)) ∧ ∀ (a : Nat), let t := at' l a; let s := (↑a : Int); let n := s < q; let m := frS (List.take a l); let j := s + (1 : Int); let i := Sl.e t; Nat.le a (h) → (Decidable.decide (n) = true → ((0 : Int) ≤ s ∧ n) ∧ Blk.read Proofs.Try.prog g (66 : Nat) (k + Int.toNat s) k = some (AV.agg [AV.bool t.1, AV.w64 i.1, AV.w64 i.2, AV.w64 i.3, AV.w64 i.4, f i.5, f i.6]) ∧ ((!t.1) = true → o (m + (1 : Int)) ∧ o j ∧ ∃ (b : Nat), St.mk [e, e, e, f (m + (1 : Int)), e, e, AV.vsl k k d, f q, f j, e, e, e, e, e, e, e, e, e, e] [some g] = gcSt l b ∧ Nat.le b (h) ∧ h + u - b < h + u - a) ∧ ((!t.1) = false → o j ∧ ∃ (c : Nat), St.mk [e, e, e, f (m), e, e, AV.vsl k k d, f q, f j, e, e, e, e, e, e, e, e, e, e] [some g] = gcSt l c ∧ Nat.le c (h) ∧ h + u - c < h + u - a)) ∧ (Decidable.decide (n) = false → f (m) = r))) := by kernel_rfl

theorem gfree8_ok : SpecOK Try.prog 77 (genSpec [pSl] gfree8F) := by
  refine genSpec_ok none_ok fun l R hF => ?_
  unfold gfree8F at hF
  split at hF
  · rename_i r_l
    obtain ⟨hr_l, hl, hF⟩ := hF
    generalize deS r_l = l at hr_l hl hF
    subst hr_l
    refine ⟨_, hF, rfl, (gcH l), ?_⟩
    show run [] Try.prog _ [.vsl 0 0 (l.map slE).length] [some ⟨false, (pSl.getD (0, 0)).1, (pSl.getD (0, 0)).2, true, (l.map slE)⟩] _ _
    rw [gfree8_run]; (conv => zeta)
    refine ⟨⟨rfl, Nat.zero_le _⟩, ?_⟩
    intro p (hp : p ≤ l.length)
    refine ⟨fun hlt => ?_, fun hge => ?_⟩
    · have hlt : p < l.length := by simp only [decide_eq_true_eq, List.length_map] at hlt; omega
      have B : 0 ≤ (p : Int) ∧ (p : Int) < ((l.map slE).length : Int) := by rw [List.length_map]; omega
      have e : frS (l.take (p + 1)) = if (at' l p).ok then frS (l.take p) else frS (l.take p) + 1 := by rw [take_one hlt, frS_snoc]
      have hb : frS (l.take p) ≤ p ∧ 0 ≤ frS (l.take p) := by
        have := ensS_length (l.take p)
        unfold frS
        rw [List.length_take] at *
        omega
      refine ⟨B, read_rows B.1 B.2 (sl_whole _), fun ho => ?_, fun ho => ?_⟩
      · rw [notTT ho] at e
        refine ⟨inR (by omega) (by omega), inR (by omega) (by omega), p + 1, ?_, hlt, by omega⟩
        unfold gcSt
        rw [e]; rfl
      · rw [notF ho] at e
        refine ⟨inR (by omega) (by omega), p + 1, ?_, hlt, by omega⟩
        unfold gcSt
        rw [e]; rfl
    · have hp : p = l.length := by simp only [decide_eq_false_iff_not, List.length_map] at hge; omega
      subst hp
      rw [List.take_length]
  · exact hF.elim


theorem gentries8_run (l : List Sl) (F : List En → List AV) (es : List AV) : run [] Try.prog 74 [.vsl 0 0 (l.map slE).length] [some ⟨false, (pSl.getD (0, 0)).1, (pSl.getD (0, 0)).2, true, (l.map slE)⟩] (gnH F l) (yields (.vrow 29 6 es)) =
    (let t := AV.w64; let n := List.length l; let m := (1 : Nat); let k := Blk.mk true (29 : TypeId) (6 : Nat) true; let j := (0 : Nat); let i := AV.int IntKind.i64; let h := AV.any; let f := List.length (List.map slE l); let v := (↑f : Int); let e := Blk.mk false (66 : TypeId) (7 : Nat) true (List.map slE l);((St.mk [h, h, h, AV.vsl (List.length [some e]) j j, h, h, AV.vsl j j f, i v, i (0 : Int), h, h, h, h, h, h, h, h, h, h, h, h] ([some e] ++ [some (k [])]) = gnSt F l j ∧ Nat.le j (n)) ∧ ∀ (a : Nat), let x := at' l a; let w := (↑a : Int); let u := F (ensS (List.take (a + m) l)); let s := w < v; let q := w + (1 : Int); let g := ensS (List.take a l); let r := List.length g; let d := Sl.e x; let o := [AV.agg [t d.1, t d.2, t d.3, t d.4, i d.5, i d.6]]; Nat.le a (n) → (Decidable.decide (s) = true → ((0 : Int) ≤ w ∧ s) ∧ Blk.read Proofs.Try.prog e (66 : Nat) (j + Int.toNat w) j = some (AV.agg [AV.bool x.1, t d.1, t d.2, t d.3, t d.4, i d.5, i d.6]) ∧ (x.1 = true → ((r + m) * (48 : Nat) ≤ (140737488355328 : Nat) ∧ r + m ≤ (9223372036854775807 : Nat) ∧ j + m ≤ List.length o ∧ r ≤ List.length (F g)) ∧ List.take (r) (F g) ++ o = u ∧ inRange IntKind.i64 q ∧ ∃ (b : Nat), St.mk [h, h, h, AV.vsl (j + m) j (r + m), h, h, AV.vsl j j f, i v, i q, h, h, h, h, h, h, h, h, h, h, h, h] [some e, some (Blk.mk true (29 : Nat) (6 : Nat) true (u))] = gnSt F l b ∧ Nat.le b (n) ∧ n + m - b < n + m - a) ∧ (x.1 = false → inRange IntKind.i64 q ∧ ∃ (c : Nat), St.mk [h, h, h, AV.vsl (j + m) j (r), h, h, AV.vsl j j f, i v, i q, h, h, h, h, h, h, h, h, h, h, h, h] [some e, some (k (F g))] = gnSt F l c ∧ Nat.le c (n) ∧ n + m - c < n + m - a)) ∧ (Decidable.decide (s) = false → r = List.length es ∧ some (k (F g)) = some (k es)))) := by kernel_rfl

theorem gentries8_ok : SpecOK Try.prog 74 (genSpec [pSl] gentries8F) := by
  refine genSpec_ok none_ok fun l R hF => ?_
  unfold gentries8F at hF
  split at hF
  · rename_i r_l
    obtain ⟨hr_l, hl, hF⟩ := hF
    generalize deS r_l = l at hr_l hl hF
    subst hr_l
    refine ⟨_, hF, trivial, (gnH (List.map enE) l), ?_⟩
    show run [] Try.prog _ [.vsl 0 0 (l.map slE).length] [some ⟨false, (pSl.getD (0, 0)).1, (pSl.getD (0, 0)).2, true, (l.map slE)⟩] _ _
    rw [gentries8_run]; (conv => zeta)
    have hle : ∀ q, (ensS (l.take q)).length ≤ 1000000 := fun q => by have := ensS_length (l.take q); rw [List.length_take] at this; omega
    refine ⟨⟨rfl, Nat.zero_le _⟩, ?_⟩
    intro p (hp : p ≤ l.length)
    refine ⟨fun hlt => ?_, fun hge => ?_⟩
    · have hlt : p < l.length := by simp only [decide_eq_true_eq, List.length_map] at hlt; omega
      have B : 0 ≤ (p : Int) ∧ (p : Int) < ((l.map slE).length : Int) := by rw [List.length_map]; omega
      have e : ensS (l.take (p + 1)) = if (at' l p).ok then ensS (l.take p) ++ [(at' l p).e] else ensS (l.take p) := by rw [take_one hlt, ensS_snoc]
      refine ⟨B, read_rows B.1 B.2 (sl_whole _), fun ho => ?_, fun ho => ?_⟩
      · rw [ho, if_pos rfl] at e
        have := hle p
        refine ⟨⟨by omega, by omega, by simp, by rw [List.length_map]; exact Nat.le_refl _⟩, ?_, inR (by omega) (by omega), p + 1, ?_, hlt, by omega⟩
        · rw [List.take_of_length_le (by rw [List.length_map]; exact Nat.le_refl _), e, List.map_append]
          rfl
        · unfold gnSt
          rw [e, List.length_append]
          rfl
      · rw [ho] at e
        refine ⟨inR (by omega) (by omega), p + 1, ?_, hlt, by omega⟩
        unfold gnSt
        rw [e]; rfl
    · have hp : p = l.length := by simp only [decide_eq_false_iff_not, List.length_map] at hge; omega
      subst hp
      rw [List.take_length, List.length_map]
      exact ⟨rfl, rfl⟩
  · exact hF.elim


theorem gclone8_run (l : List Sl) (F : List Sl → List AV) (es : List AV) : run [] Try.prog 43 [.vsl 0 0 (l.map slE).length] [some ⟨false, (pSl.getD (0, 0)).1, (pSl.getD (0, 0)).2, true, (l.map slE)⟩] [.ix l.length, .rows (F l)] (yields (.vrow 66 7 es)) =
    (let h := List.length l; let f := (0 : Nat); let e := AV.lit (Value.int IntKind.i64 (0 : Int)); let d := List.length (List.map slE l); let c := AV.lit (Value.int IntKind.u64 (0 : Int)); let b := (↑(d) : Int); let g := Int.toNat b; let a := (List.replicate (g) (AV.agg [AV.lit (Value.bool false), c, c, c, c, e, e]));(((0 : Int) ≤ b ∧ b ≤ b ∧ b ≤ (9223372036854775807 : Int) ∧ (↑(56 : Nat) : Int) * b ≤ (281474976710656 : Int) ∧ f < (7 : Nat)) ∧ (h = Min.min (d) (g) ∧ f + g ≤ List.length a ∧ f + d ≤ d) ∧ [] ++ List.take (h) (List.drop f (List.map slE l)) ++ List.drop (f + h) a = F l ∧ g = List.length es ∧ some (Blk.mk true (nat_lit 66) (7 : Nat) true (F l)) = some (Blk.mk true (66 : TypeId) (7 : Nat) true es))) := by kernel_rfl

theorem gclone8_ok : SpecOK Try.prog 43 (genSpec [pSl] clone8F) := by
  refine genSpec_ok none_ok fun l R hF => ?_
  unfold clone8F at hF
  split at hF
  · rename_i r_l
    obtain ⟨hr_l, hl, hF⟩ := hF
    generalize deS r_l = l at hr_l hl hF
    subst hr_l
    refine ⟨_, hF, trivial, [.ix l.length, .rows ((List.map slE) l)], ?_⟩
    show run [] Try.prog _ [.vsl 0 0 (l.map slE).length] [some ⟨false, (pSl.getD (0, 0)).1, (pSl.getD (0, 0)).2, true, (l.map slE)⟩] _ _
    rw [gclone8_run]; (conv => zeta)
    have e : (((l.map slE).length : Int)).toNat = l.length := by rw [List.length_map]; rfl
    rw [e, List.length_replicate, List.length_map]
    refine ⟨⟨by omega, by omega, by omega, by omega, by decide⟩, ⟨by omega, by omega, by omega⟩, ?_, rfl, rfl⟩
    rw [List.nil_append, take_all rfl, List.drop_eq_nil_of_le (by rw [List.length_replicate]; omega), List.append_nil]
  · exact hF.elim


noncomputable def gapply8Cs : List (FuncId × Sx.Spec) := [(43, genSpec [pSl] clone8F),
  (44, genSpec [none, none] gmay8F)]

theorem gapply8_run (l : List Sl) (w : List Wr) (F : List Sl → List AV) (es : List AV) : run gapply8Cs Try.prog 24 [.vsl 0 0 (l.map slE).length, .vsl 1 0 (w.map wrE).length] [some ⟨false, (pSl.getD (0, 0)).1, (pSl.getD (0, 0)).2, true, (l.map slE)⟩, some ⟨false, (pWr.getD (0, 0)).1, (pWr.getD (0, 0)).2, true, (w.map wrE)⟩] (gaH F l w) (yields (.vrow 66 7 es)) =
    (let D := AV.w64; let v := List.map slE; let C := List.length (v l); let u := List.length (F l); let t := Blk.mk true (66 : TypeId) (7 : Nat) true; let s := List.length w; let r := (1 : Nat); let n := Blk.mk false (66 : TypeId) (7 : Nat) true (v l); let m := (0 : Nat); let G := AV.vsl (m + r + r) m (u); let k := AV.int IntKind.i64; let j := List.length (List.map wrE w); let z := (↑j : Int); let i := Blk.mk false (68 : TypeId) (8 : Nat) true (List.map wrE w); let h := AV.any; let f := List.take (C) (List.drop m (v l)); let E := deS (f);(m + C ≤ C ∧ f = v E ∧ List.length E ≤ (1000000 : Nat) ∧ (v E = F l ∧ List.length (v E) = u) ∧ (St.mk [h, h, h, h, h, G, h, h, h, h, AV.vsl (m + r) m j, k z, k (0 : Int), h, h, h, h, h, h, h, h, h, h, h, h, h, h, h] [some n, some i, some (t (F l))] = gaSt F l w m ∧ Nat.le m (s)) ∧ ∀ (a : Nat), let A := F (apL l (List.take (a + r) w)); let y := (↑a : Int); let H := Decidable.decide (y < z); let B := inRange IntKind.i64 (y + (1 : Int)); let x := at' w a; let g := t (F (apL l (List.take a w))); let e := St.mk [h, h, h, h, h, G, h, h, h, h, AV.vsl (m + r) m j, k z, k (y + (1 : Int)), h, h, h, h, h, h, h, h, h, h, h, h, h, h, h]; let d := Sl.e (Wr.s x); let q := AV.agg [AV.bool (Wr.s x).1, D d.1, D d.2, D d.3, D d.4, k d.5, k d.6]; let o := mayS (Wr.mk x.1 (Sl.mk (Wr.s x).1 (En.mk d.1 d.2 d.3 d.4 d.5 d.6))) (↑(u) : Int); Nat.le a (s) → (H = true → ((0 : Int) ≤ y ∧ y < z) ∧ Blk.read Proofs.Try.prog i (68 : Nat) (m + Int.toNat y) m = some (AV.agg [k x.1, AV.bool (Wr.s x).1, D d.1, D d.2, D d.3, D d.4, k d.5, k d.6]) ∧ (o = true → ((0 : Int) ≤ x.1 ∧ x.1 < (↑(u) : Int)) ∧ Blk.fits g (m + Int.toNat x.1) m q = true ∧ Blk.writes g (m + Int.toNat x.1) m q A ∧ B ∧ ∃ (b : Nat), e [some n, some i, some (Blk.mk true (nat_lit 66) (7 : Nat) true A)] = gaSt F l w b ∧ Nat.le b (s) ∧ s + r - b < s + r - a) ∧ (o = false → B ∧ ∃ (c : Nat), e [some n, some i, some g] = gaSt F l w c ∧ Nat.le c (s) ∧ s + r - c < s + r - a)) ∧ (H = false → u = List.length es ∧ some g = some (t es)))) := by kernel_rfl

theorem gapply8Cs_ok : ∀ e ∈ gapply8Cs, SpecOK Try.prog e.1 e.2 := by
  intro e he
  simp only [gapply8Cs, List.mem_cons, List.not_mem_nil, or_false] at he
  rcases he with rfl | rfl
  · exact gclone8_ok
  · exact gmay8_ok

theorem gapply8_ok : SpecOK Try.prog 24 (genSpec [pSl, pWr] gapply8F) := by
  refine genSpec_ok (run_ok (l := gapply8Cs) gapply8Cs_ok mixed noNG) fun l R hF => ?_
  unfold gapply8F at hF
  split at hF
  · rename_i r_l r_w
    obtain ⟨hr_l, hl, hF⟩ := hF
    generalize deS r_l = l at hr_l hl hF
    subst hr_l
    obtain ⟨hr_w, hw, hF⟩ := hF
    generalize deW r_w = w at hr_w hw hF
    subst hr_w
    refine ⟨_, hF, trivial, (gaH (List.map slE) l w), ?_⟩
    show run gapply8Cs Try.prog _ [.vsl 0 0 (l.map slE).length, .vsl 1 0 (w.map wrE).length] [some ⟨false, (pSl.getD (0, 0)).1, (pSl.getD (0, 0)).2, true, (l.map slE)⟩, some ⟨false, (pWr.getD (0, 0)).1, (pWr.getD (0, 0)).2, true, (w.map wrE)⟩] _ _
    rw [gapply8_run]; (conv => zeta)
    have hlw : ∀ q, (apL l (w.take q)).length = l.length := fun q => apL_length _ _
    rw [whole_row, deS_map]
    refine ⟨by omega, rfl, by omega, ⟨rfl, rfl⟩, ⟨rfl, Nat.zero_le _⟩, ?_⟩
    intro p (hp : p ≤ w.length)
    rw [List.length_map (f := slE)]
    refine ⟨fun hlt => ?_, fun hge => ?_⟩
    · have hlt : p < w.length := by simp only [decide_eq_true_eq, List.length_map] at hlt; omega
      have B : 0 ≤ (p : Int) ∧ (p : Int) < ((w.map wrE).length : Int) := by rw [List.length_map]; omega
      have e : apL l (w.take (p + 1)) = apS (apL l (w.take p)) (at' w p) := by rw [take_one hlt, apL_snoc]
      refine ⟨B, read_rows B.1 B.2 (wr_whole _), fun hm => ?_, fun hm => ?_⟩
      · have hm : mayS (at' w p) l.length = true := hm
        have hi := mayS_is hm
        have hi2 : (at' w p).p < ((apL l (w.take p)).length : Int) := by rw [hlw]; exact hi.2
        refine ⟨hi, fit_rows hi.1 hi2 rfl, wr_rows (x := (at' w p).s) hi.1 hi2 rfl ?_, inR (by omega) (by omega), p + 1, by unfold gaSt; rw [List.length_map (f := slE)]; rfl, hlt, by omega⟩
        rw [e]
        unfold apS
        rw [hlw, if_pos hm]
      · have hm : mayS (at' w p) l.length = false := hm
        refine ⟨inR (by omega) (by omega), p + 1, ?_, hlt, by omega⟩
        have e2 : apL l (w.take (p + 1)) = apL l (w.take p) := by
          rw [e]; unfold apS; rw [hlw, hm]; rfl
        unfold gaSt
        rw [e2, List.length_map (f := slE)]; rfl
    · have hp : p = w.length := by simp only [decide_eq_false_iff_not, List.length_map] at hge; omega
      subst hp
      rw [List.take_length, List.length_map, apL_length]
      exact ⟨rfl, rfl⟩
  · exact hF.elim


end Go.Proofs.Ytcabofadpheomaa.L1
end

