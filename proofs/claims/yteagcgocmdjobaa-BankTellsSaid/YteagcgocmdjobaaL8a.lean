/-
  Texts in one: L8T L8A L8B L8D.
-/
import Derived.Test.YteagcgocmdjobaaL5T
import Derived.Test.YteagcgocmdjobaaMa
import Derived.Test.YteagcgocmdjobaaL5D
import Derived.Test.YteagcgocmdjobaaSxU

section
/-
  Layer 8: slots and writes as values of the calculus.
-/
namespace Go.Proofs.Yteagcgocmdjobaa.L1
open Go.Sx Go.Sx.M

def cB : AV → Bool
  | .bool b => b
  | _ => false

/-- Its word. -/
def wdS (x : Sl) : AV := .agg [.w64 x.e.v, .w64 x.e.w, .w64 x.e.m, .w64 x.e.n]

/-- A slot's cells, a write's. -/
def slE (x : Sl) : AV := .agg [.bool x.ok, .w64 x.e.v, .w64 x.e.w, .w64 x.e.m, .w64 x.e.n, .int .i64 x.e.len, .int .i64 x.e.act]
def wrE (x : Wr) : AV := .agg [.int .i64 x.p, .bool x.s.ok, .w64 x.s.e.v, .w64 x.s.e.w, .w64 x.s.e.m, .w64 x.s.e.n, .int .i64 x.s.e.len, .int .i64 x.s.e.act]

def deS1 (x : AV) : Sl := ⟨cB (x.cells.getD 0 .any), ⟨cW (x.cells.getD 1 .any), cW (x.cells.getD 2 .any), cW (x.cells.getD 3 .any), cW (x.cells.getD 4 .any), cI (x.cells.getD 5 .any), cI (x.cells.getD 6 .any)⟩⟩
def deS (l : List AV) : List Sl := l.map deS1
theorem deS_map (l : List Sl) : deS (l.map slE) = l := by
  unfold deS
  rw [List.map_map]
  exact List.map_id l

def deW1 (x : AV) : Wr := ⟨cI (x.cells.getD 0 .any), ⟨cB (x.cells.getD 1 .any), ⟨cW (x.cells.getD 2 .any), cW (x.cells.getD 3 .any), cW (x.cells.getD 4 .any), cW (x.cells.getD 5 .any), cI (x.cells.getD 6 .any), cI (x.cells.getD 7 .any)⟩⟩⟩
def deW (l : List AV) : List Wr := l.map deW1
theorem deW_map (l : List Wr) : deW (l.map wrE) = l := by
  unfold deW
  rw [List.map_map]
  exact List.map_id l

theorem deW_one (x : Wr) : deW [.agg [.int .i64 x.p, .bool x.s.ok, .w64 x.s.e.v, .w64 x.s.e.w, .w64 x.s.e.m, .w64 x.s.e.n, .int .i64 x.s.e.len, .int .i64 x.s.e.act]] = [x] := rfl

theorem deS_one (x : Sl) : deS [.agg [.bool x.ok, .w64 x.e.v, .w64 x.e.w, .w64 x.e.m, .w64 x.e.n, .int .i64 x.e.len, .int .i64 x.e.act]] = [x] := rfl

/-- The zero slots that make makes. -/
theorem canon_nw (k : Nat) : (List.replicate k (AV.agg [.lit (.bool false), .lit (.int .u64 0), .lit (.int .u64 0), .lit (.int .u64 0), .lit (.int .u64 0), .lit (.int .i64 0), .lit (.int .i64 0)])).map canon = (List.replicate k zS).map slE := by
  rw [List.map_replicate, List.map_replicate]; rfl

def pSl : Par := some (37, 7)
def pWr : Par := some (39, 8)
def pRefS : Par := some (50, 7)
def pRefW : Par := some (52, 8)

theorem sl_whole (x : Sl) : partOf Try.prog 37 (slE x).cells 0 = some (slE x) := by kernel_rfl
theorem sl_ok (x : Sl) : partOf Try.prog 4 (slE x).cells 0 = some (.bool x.ok) := by kernel_rfl
theorem sl_word (x : Sl) : partOf Try.prog 46 (slE x).cells 1 = some (wdS x) := by kernel_rfl
theorem rsl_whole (x : Sl) : partOf Try.prog 50 (slE x).cells 0 = some (slE x) := by kernel_rfl
theorem rsl_entry (x : Sl) : partOf Try.prog 48 (slE x).cells 1 = some (enE x.e) := by kernel_rfl
theorem sl_act (x : Sl) : partOf Try.prog 3 (slE x).cells 6 = some (.int .i64 x.e.act) := by kernel_rfl
theorem wr_whole (x : Wr) : partOf Try.prog 39 (wrE x).cells 0 = some (wrE x) := by kernel_rfl
theorem rwr_whole (x : Wr) : partOf Try.prog 52 (wrE x).cells 0 = some (wrE x) := by kernel_rfl
theorem wr_at (x : Wr) : partOf Try.prog 3 (wrE x).cells 0 = some (.int .i64 x.p) := by kernel_rfl
theorem rwr_slot (x : Wr) : partOf Try.prog 50 (wrE x).cells 1 = some (slE x.s) := by kernel_rfl

theorem rwr_one (x : Wr) : (Blk.mk true 52 8 true [.agg [.int .i64 x.p, .bool x.s.ok, .w64 x.s.e.v, .w64 x.s.e.w, .w64 x.s.e.m, .w64 x.s.e.n, .int .i64 x.s.e.len, .int .i64 x.s.e.act]]).read Try.prog 52 (0 + Int.toNat 0) 0 = some (.agg [.int .i64 x.p, .bool x.s.ok, .w64 x.s.e.v, .w64 x.s.e.w, .w64 x.s.e.m, .w64 x.s.e.n, .int .i64 x.s.e.len, .int .i64 x.s.e.act]) := by kernel_rfl

/-- An element of a row is written. -/
theorem fit_rows {T : Type} [Inhabited T] {en : T → AV} {l : List T} {b : Bool} {ty : TypeId} {esz : Nat} {k : Int} {v : AV} (h0 : 0 ≤ k) (h1 : k < (l.length : Int)) (hf : fitElem (en (at' l k.toNat)) 0 v = true) :
    (Blk.mk b ty esz true (l.map en)).fits (0 + k.toNat) 0 v = true := by
  unfold Blk.fits
  rw [Nat.zero_add, List.getElem?_map, at_get (show k.toNat < l.length by omega)]
  exact hf

theorem wr_rows {T : Type} [Inhabited T] {en : T → AV} {l : List T} {b : Bool} {ty : TypeId} {esz : Nat} {k : Int} {x : T} {es : List AV} (h0 : 0 ≤ k) (h1 : k < (l.length : Int)) (hw : wrElem (en (at' l k.toNat)) 0 (en x) = en x) (he : (l.set k.toNat x).map en = es) :
    (Blk.mk b ty esz true (l.map en)).writes (0 + k.toNat) 0 (en x) es := by
  unfold Blk.writes Blk.write
  dsimp only
  rw [Nat.zero_add, List.getElem?_map, at_get (show k.toNat < l.length by omega), Option.map_some]
  dsimp only
  rw [hw, ← he, List.map_set]

theorem Sl_dec (cs : List Value) (h : fitsAll [.bool, .int .u64, .int .u64, .int .u64, .int .u64, .int .i64, .int .i64] cs) : ∃ x : Sl, (slE x).cells.length = 7 ∧ (slE x).sound = true ∧ AVRs [] (slE x).cells cs := by
  obtain ⟨y0, l0, rfl, e0, g⟩ := fits_cons h
  obtain ⟨b, rfl⟩ := e0
  obtain ⟨x, _, _, hx⟩ := En_dec _ g
  exact ⟨⟨b, x⟩, rfl, rfl, .cons (.bool _) hx⟩

theorem Wr_dec (cs : List Value) (h : fitsAll [.int .i64, .bool, .int .u64, .int .u64, .int .u64, .int .u64, .int .i64, .int .i64] cs) : ∃ x : Wr, (wrE x).cells.length = 8 ∧ (wrE x).sound = true ∧ AVRs [] (wrE x).cells cs := by
  obtain ⟨y0, l0, rfl, e0, g⟩ := fits_cons h
  obtain ⟨n, rfl, _⟩ := e0
  obtain ⟨x, _, _, hx⟩ := Sl_dec _ g
  exact ⟨⟨n, x⟩, rfl, rfl, .cons (.int _ _) hx⟩

end Go.Proofs.Yteagcgocmdjobaa.L1
end

section
/-
  Layer 8: contracts of the document's Right, May, Apply, Entries, Find, Tell.
-/
namespace Go.Proofs.Yteagcgocmdjobaa.L1
open Go.Sx Go.Sx.M

/-- Apply: the state of its loop. -/
def apSt (F : List Sl → List AV) (l : List Sl) (w : List Wr) (p : Nat) : St :=
  ⟨[.vsl 0 0 (l.map slE).length, .vsl 1 0 (w.map wrE).length, .any, .any, .any, .vsl 2 0 l.length, .int .i64 p, .any, .any, .any, .any, .any, .any, .any, .any, .any, .any, .any, .any, .any, .any, .any, .any, .any, .any, .any, .any, .any, .any, .any, .any, .any, .any, .any, .any, .any], [some ⟨false, 50, 7, true, l.map slE⟩, some ⟨false, 52, 8, true, w.map wrE⟩, some ⟨true, 50, 7, true, F (apL l (w.take p))⟩]⟩
def apM0 : Modes := ⟨[1, 1, 0, 0, 0, 1, 2, 0, 0, 0, 0, 0, 0, 0, 0, 0, 0, 0, 0, 0, 0, 0, 0, 0, 0, 0, 0, 0, 0, 0, 0, 0, 0, 0, 0, 0], [], [], [], []⟩
def apM : Modes := ⟨[1, 1, 0, 0, 0, 1, 1, 0, 0, 0, 0, 0, 0, 0, 0, 0, 0, 0, 0, 0, 0, 0, 0, 0, 0, 0, 0, 0, 0, 0, 0, 0, 0, 0, 0, 0], [], [], [], []⟩
def apH (F : List Sl → List AV) (l : List Sl) (w : List Wr) : List Hint := .rows (F l) :: [.linv _ 0 (apSt F l w) (fun p => p ≤ w.length) (fun p => w.length + 1 - p) apM0 apM apM (fun _ => []) fun p =>
  [.fork [.dy, .cell (wrE (at' w p)), .fork [.dy, .cell (.int .i64 (at' w p).p), .dy, .cell (slE (at' w p).s), .dy, .rows (F (apL l (w.take (p + 1)))), .nw] [.nw]] []]]

/-- Entries. -/
def enSt (F : List En → List AV) (l : List Sl) (p : Nat) : St :=
  ⟨[.vsl 0 0 (l.map slE).length, .any, .any, .vsl 1 0 (ensS (l.take p)).length, .int .i64 p, .any, .any, .any, .any, .any, .any, .any, .any, .any, .any, .any, .any, .any, .any, .any, .any, .any, .any, .any, .any], [some ⟨false, 50, 7, true, l.map slE⟩, some ⟨true, 48, 6, true, F (ensS (l.take p))⟩]⟩
def enM0 : Modes := ⟨[1, 0, 0, 1, 2, 0, 0, 0, 0, 0, 0, 0, 0, 0, 0, 0, 0, 0, 0, 0, 0, 0, 0, 0, 0], [], [], [], [(3, 48, 6)]⟩
def enM : Modes := ⟨[1, 0, 0, 1, 1, 0, 0, 0, 0, 0, 0, 0, 0, 0, 0, 0, 0, 0, 0, 0, 0, 0, 0, 0, 0], [], [], [], []⟩
def enH (F : List En → List AV) (l : List Sl) : List Hint := [.linv _ 0 (enSt F l) (fun p => p ≤ l.length) (fun p => l.length + 1 - p) enM0 enM enM (fun _ => []) fun p =>
  [.fork [.dy, .cell (.bool (at' l p).ok), .fork [.dy, .cell (enE (at' l p).e), .rows (F (ensS (l.take (p + 1)))), .nw] [.nw]] []]]

/-- Find. -/
def fnSt (l : List Sl) (a b : BitVec 64) (p : Nat) : St :=
  ⟨[.vsl 0 0 (l.map slE).length, .any, .any, .ptr 1 0 0 true, .any, .int .i64 p, .any, .any, .any, .any, .any, .any, .any, .any, .any, .any, .any, .any, .any, .any, .any, .any, .any, .any, .any, .any, .any, .any], [some ⟨false, 50, 7, true, l.map slE⟩, some ⟨true, 30, 2, true, [.agg [.w64 a, .w64 b]]⟩]⟩
def fnM0 : Modes := ⟨[1, 0, 0, 1, 0, 2, 0, 0, 0, 0, 0, 0, 0, 0, 0, 0, 0, 0, 0, 0, 0, 0, 0, 0, 0, 0, 0, 0], [], [], [], []⟩
def fnM : Modes := ⟨[1, 0, 0, 1, 0, 1, 0, 0, 0, 0, 0, 0, 0, 0, 0, 0, 0, 0, 0, 0, 0, 0, 0, 0, 0, 0, 0, 0], [], [], [], []⟩
def fnM' : Modes := ⟨[0, 0, 0, 0, 1, 0, 0, 0, 0, 0, 0, 0, 0, 0, 0, 0, 0, 0, 0, 0, 0, 0, 0, 0, 0, 0, 0, 0], [], [], [], []⟩
def fnI (l : List Sl) (a b : BitVec 64) (p : Nat) : Prop := p ≤ l.length ∧ ∀ j, j < p → mtS a b (at' l j) = false
def fnH (l : List Sl) (a b : BitVec 64) : List Hint := [.linv _ 0 (fnSt l a b) (fnI l a b) (fun p => l.length + 1 - p) fnM0 fnM fnM' (fun _ => []) fun p =>
  [.fork [.dy, .cell (.bool (at' l p).ok), .fork [.dy, .cell (wdS (at' l p)), .fork [] [.nw]] [.nw]] []]]

noncomputable def rright8Cs : List (FuncId × Sx.Spec) := [(49, genSpec [none, none, none] opF)]

theorem rright8_run (v w m n : BitVec 64) (k j : Int) (r : AV) : run rright8Cs Try.prog 39 [.agg [.w64 v, .w64 w, .w64 m, .w64 n, .int .i64 k, .int .i64 j]] [] [.fork [.fork [.fork [.fork [] []] []] []] []] (yields (.v r)) =
    (((opW (0 : Int) v m == v && opW (0 : Int) w n == w) = true → (Decidable.decide (k ≥ (0 : Int)) = true → (Decidable.decide (k ≤ (128 : Int)) = true → (Decidable.decide (j ≥ (1 : Int)) = true → AV.bool (Decidable.decide (j ≤ (255 : Int))) = r) ∧ (Decidable.decide (j ≥ (1 : Int)) = false → AV.bool false = r)) ∧ (Decidable.decide (k ≤ (128 : Int)) = false → AV.bool false = r)) ∧ (Decidable.decide (k ≥ (0 : Int)) = false → AV.bool false = r)) ∧ ((opW (0 : Int) v m == v && opW (0 : Int) w n == w) = false → AV.bool false = r)) := by kernel_rfl

theorem rright8Cs_ok : ∀ e ∈ rright8Cs, SpecOK Try.prog e.1 e.2 := by
  intro e he
  simp only [rright8Cs, List.mem_cons, List.not_mem_nil, or_false] at he
  rcases he with rfl
  · exact op_ok

theorem rright8_ok : SpecOK Try.prog 39 (genSpec [none] erightF) := by
  refine genSpec_ok (run_ok (l := rright8Cs) rright8Cs_ok mixed noNG) fun l R hF => ?_
  unfold erightF at hF
  split at hF
  · rename_i v w m n k j
    refine ⟨_, hF, rfl, [.fork [.fork [.fork [.fork [] []] []] []] []], ?_⟩
    show run rright8Cs Try.prog _ [.agg [.w64 v, .w64 w, .w64 m, .w64 n, .int .i64 k, .int .i64 j]] [] _ _
    rw [rright8_run]
    have e : rtE ⟨v, w, m, n, k, j⟩ = ((v &&& m == v && w &&& n == w) && (decide (k ≥ 0) && (decide (k ≤ 128) && (decide (j ≥ 1) && decide (j ≤ 255))))) := rfl
    rw [e]
    refine ⟨fun h => ⟨fun h1 => ⟨fun h2 => ⟨fun h3 => ?_, fun h3 => ?_⟩, fun h2 => ?_⟩, fun h1 => ?_⟩, fun h => ?_⟩
    all_goals
      have h : (v &&& m == v && w &&& n == w) = _ := h
      rw [h]
    · rw [h1, h2, h3]; rfl
    · rw [h1, h2, h3]; rfl
    · rw [h1, h2]; rfl
    · rw [h1]; rfl
    · rfl
  · exact hF.elim


def rmay8F : List Arg → (Res → Prop) → Prop
  | [.v (.agg [.int .i64 p, .bool o, .w64 v, .w64 w, .w64 m, .w64 n, .int .i64 k, .int .i64 j]), .v (.int .i64 z)], R => R (.v (.bool (mayS ⟨p, ⟨o, ⟨v, w, m, n, k, j⟩⟩⟩ z)))
  | _, _ => False

noncomputable def rmay8Cs : List (FuncId × Sx.Spec) := [(39, genSpec [none] erightF)]

theorem rmay8_run (p : Int) (o : Bool) (v w m n : BitVec 64) (k j z : Int) (r : AV) : run rmay8Cs Try.prog 15 [.agg [.int .i64 p, .bool o, .w64 v, .w64 w, .w64 m, .w64 n, .int .i64 k, .int .i64 j], .int .i64 z] [] [.fork [] [.fork [] [.fork [] [.fork [] []]]]] (yields (.v r)) =
    ((Decidable.decide (p < (0 : Int)) = true → AV.bool false = r) ∧ (Decidable.decide (p < (0 : Int)) = false → (Decidable.decide (p ≥ z) = true → AV.bool false = r) ∧ (Decidable.decide (p ≥ z) = false → ((o == false && (v == BitVec.ofInt (64 : Nat) (0 : Int) && w == BitVec.ofInt (64 : Nat) (0 : Int) && (m == BitVec.ofInt (64 : Nat) (0 : Int) && n == BitVec.ofInt (64 : Nat) (0 : Int)) && (k == (0 : Int) && j == (0 : Int)))) = true → AV.bool true = r) ∧ ((o == false && (v == BitVec.ofInt (64 : Nat) (0 : Int) && w == BitVec.ofInt (64 : Nat) (0 : Int) && (m == BitVec.ofInt (64 : Nat) (0 : Int) && n == BitVec.ofInt (64 : Nat) (0 : Int)) && (k == (0 : Int) && j == (0 : Int)))) = false → (o = true → AV.bool (rtE (En.mk v w m n k j)) = r) ∧ (o = false → AV.bool false = r))))) := by kernel_rfl

theorem rmay8Cs_ok : ∀ e ∈ rmay8Cs, SpecOK Try.prog e.1 e.2 := by
  intro e he
  simp only [rmay8Cs, List.mem_cons, List.not_mem_nil, or_false] at he
  rcases he with rfl
  · exact rright8_ok

theorem rmay8_ok : SpecOK Try.prog 15 (genSpec [none, none] rmay8F) := by
  refine genSpec_ok (run_ok (l := rmay8Cs) rmay8Cs_ok mixed noNG) fun l R hF => ?_
  unfold rmay8F at hF
  split at hF
  · rename_i p o v w m n k j z
    refine ⟨_, hF, rfl, [.fork [] [.fork [] [.fork [] [.fork [] []]]]], ?_⟩
    show run rmay8Cs Try.prog _ [.agg [.int .i64 p, .bool o, .w64 v, .w64 w, .w64 m, .w64 n, .int .i64 k, .int .i64 j], .int .i64 z] [] _ _
    rw [rmay8_run]
    have hs : ∀ {x : Bool}, rtS ⟨o, ⟨v, w, m, n, k, j⟩⟩ = x → (0 ≤ p ∧ p < z) → AV.bool x = .bool (mayS ⟨p, ⟨o, ⟨v, w, m, n, k, j⟩⟩⟩ z) := fun h h2 => by rw [mayS_in h2, h]
    have hn : ¬ (0 ≤ p ∧ p < z) → AV.bool false = .bool (mayS ⟨p, ⟨o, ⟨v, w, m, n, k, j⟩⟩⟩ z) := fun h => by rw [mayS_not h]
    rw [eq_zS]
    refine ⟨fun h => hn ?_, fun h => ⟨fun h1 => hn ?_, fun h1 => ⟨fun h2 => hs ?_ ?_, fun h2 => ⟨fun h3 => hs ?_ ?_, fun h3 => hs ?_ ?_⟩⟩⟩⟩
    · have := of_decide_eq_true h; omega
    · have := of_decide_eq_true h1; omega
    · unfold rtS; rw [h2]; rfl
    · have := of_decide_eq_false h; have := of_decide_eq_false h1; omega
    · unfold rtS; rw [h2, h3]; simp
    · have := of_decide_eq_false h; have := of_decide_eq_false h1; omega
    · unfold rtS; rw [h2, h3]; rfl
    · have := of_decide_eq_false h; have := of_decide_eq_false h1; omega
  · exact hF.elim


def rapply8F : List Arg → (Res → Prop) → Prop
  | [.row r_l, .row r_w], R => r_l = (deS r_l).map slE ∧ (deS r_l).length ≤ 1000000 ∧ r_w = (deW r_w).map wrE ∧ (deW r_w).length ≤ 1000000 ∧ R (.vrow 50 7 ((apL (deS r_l) (deW r_w)).map slE))
  | _, _ => False

noncomputable def rapply8Cs : List (FuncId × Sx.Spec) := [(15, genSpec [none, none] rmay8F)]

theorem rapply8_run (l : List Sl) (w : List Wr) (F : List Sl → List AV) (es : List AV) : run rapply8Cs Try.prog 19 [.vsl 0 0 (l.map slE).length, .vsl 1 0 (w.map wrE).length] [some ⟨false, (pRefS.getD (0, 0)).1, (pRefS.getD (0, 0)).2, true, (l.map slE)⟩, some ⟨false, (pRefW.getD (0, 0)).1, (pRefW.getD (0, 0)).2, true, (w.map wrE)⟩] (apH F l w) (yields (.vrow 50 7 es)) =
    ((((0 : Nat) + List.length (List.map slE l)) * (56 : Nat) ≤ (140737488355328 : Nat) ∧ (0 : Nat) + List.length (List.map slE l) ≤ (9223372036854775807 : Nat) ∧ (0 : Nat) + List.length (List.map slE l) ≤ List.length (List.map slE l) ∧ (0 : Nat) ≤ List.length ([] : List AV)) ∧ [] ++ List.take (List.length (List.map slE l)) (List.drop (0 : Nat) (List.map slE l)) = F l ∧ (St.mk [AV.vsl (0 : Nat) (0 : Nat) (List.length (List.map slE l)), AV.vsl ((0 : Nat) + (1 : Nat)) (0 : Nat) (List.length (List.map wrE w)), AV.any, AV.any, AV.any, AV.vsl ((0 : Nat) + (1 : Nat) + (1 : Nat)) (0 : Nat) ((0 : Nat) + List.length (List.map slE l)), AV.int IntKind.i64 (0 : Int), AV.any, AV.any, AV.any, AV.any, AV.any, AV.any, AV.any, AV.any, AV.any, AV.any, AV.any, AV.any, AV.any, AV.any, AV.any, AV.any, AV.any, AV.any, AV.any, AV.any, AV.any, AV.any, AV.any, AV.any, AV.any, AV.any, AV.any, AV.any, AV.any] [some (Blk.mk false (nat_lit 50) (7 : Nat) true (List.map slE l)), some (Blk.mk false (nat_lit 52) (8 : Nat) true (List.map wrE w)), some (Blk.mk true (50 : Nat) (7 : Nat) true (F l))] = apSt F l w (0 : Nat) ∧ Nat.le (0 : Nat) (List.length w)) ∧ ∀ (p : Nat), Nat.le p (List.length w) → (Decidable.decide ((↑p : Int) < (↑(List.length (List.map wrE w)) : Int)) = true → ((0 : Int) ≤ (↑p : Int) ∧ (↑p : Int) < (↑(List.length (List.map wrE w)) : Int)) ∧ Blk.read Proofs.Try.prog (Blk.mk false (52 : TypeId) (8 : Nat) true (List.map wrE w)) (52 : Nat) ((0 : Nat) + Int.toNat (↑p : Int)) (0 : Nat) = some (AV.agg [AV.int IntKind.i64 (at' w p).1, AV.bool (Wr.s (at' w p)).1, AV.w64 (Sl.e (Wr.s (at' w p))).1, AV.w64 (Sl.e (Wr.s (at' w p))).2, AV.w64 (Sl.e (Wr.s (at' w p))).3, AV.w64 (Sl.e (Wr.s (at' w p))).4, AV.int IntKind.i64 (Sl.e (Wr.s (at' w p))).5, AV.int IntKind.i64 (Sl.e (Wr.s (at' w p))).6]) ∧ (mayS (Wr.mk (at' w p).1 (Sl.mk (Wr.s (at' w p)).1 (En.mk (Sl.e (Wr.s (at' w p))).1 (Sl.e (Wr.s (at' w p))).2 (Sl.e (Wr.s (at' w p))).3 (Sl.e (Wr.s (at' w p))).4 (Sl.e (Wr.s (at' w p))).5 (Sl.e (Wr.s (at' w p))).6))) (↑(List.length l) : Int) = true → ((0 : Int) ≤ (↑p : Int) ∧ (↑p : Int) < (↑(List.length (List.map wrE w)) : Int)) ∧ Blk.read Proofs.Try.prog (Blk.mk false (52 : TypeId) (8 : Nat) true (List.map wrE w)) (3 : Nat) ((0 : Nat) + Int.toNat (↑p : Int)) ((0 : Nat) + (0 : Nat)) = some (AV.int IntKind.i64 (at' w p).1) ∧ ((0 : Int) ≤ (↑p : Int) ∧ (↑p : Int) < (↑(List.length (List.map wrE w)) : Int)) ∧ Blk.read Proofs.Try.prog (Blk.mk false (52 : TypeId) (8 : Nat) true (List.map wrE w)) (50 : Nat) ((0 : Nat) + Int.toNat (↑p : Int)) ((0 : Nat) + (1 : Nat)) = some (AV.agg [AV.bool (Wr.s (at' w p)).1, AV.w64 (Sl.e (Wr.s (at' w p))).1, AV.w64 (Sl.e (Wr.s (at' w p))).2, AV.w64 (Sl.e (Wr.s (at' w p))).3, AV.w64 (Sl.e (Wr.s (at' w p))).4, AV.int IntKind.i64 (Sl.e (Wr.s (at' w p))).5, AV.int IntKind.i64 (Sl.e (Wr.s (at' w p))).6]) ∧ ((0 : Int) ≤ (at' w p).1 ∧ (at' w p).1 < (↑(List.length l) : Int)) ∧ Blk.fits (Blk.mk true (50 : TypeId) (7 : Nat) true (F (apL l (List.take p w)))) ((0 : Nat) + Int.toNat (at' w p).1) (0 : Nat) (AV.agg [AV.bool (Wr.s (at' w p)).1, AV.w64 (Sl.e (Wr.s (at' w p))).1, AV.w64 (Sl.e (Wr.s (at' w p))).2, AV.w64 (Sl.e (Wr.s (at' w p))).3, AV.w64 (Sl.e (Wr.s (at' w p))).4, AV.int IntKind.i64 (Sl.e (Wr.s (at' w p))).5, AV.int IntKind.i64 (Sl.e (Wr.s (at' w p))).6]) = true ∧ Blk.writes (Blk.mk true (50 : TypeId) (7 : Nat) true (F (apL l (List.take p w)))) ((0 : Nat) + Int.toNat (at' w p).1) (0 : Nat) (AV.agg [AV.bool (Wr.s (at' w p)).1, AV.w64 (Sl.e (Wr.s (at' w p))).1, AV.w64 (Sl.e (Wr.s (at' w p))).2, AV.w64 (Sl.e (Wr.s (at' w p))).3, AV.w64 (Sl.e (Wr.s (at' w p))).4, AV.int IntKind.i64 (Sl.e (Wr.s (at' w p))).5, AV.int IntKind.i64 (Sl.e (Wr.s (at' w p))).6]) (F (apL l (List.take (p + (1 : Nat)) w))) ∧ inRange IntKind.i64 ((↑p : Int) + (1 : Int)) ∧ ∃ (p' : Nat), St.mk [AV.vsl (0 : Nat) (0 : Nat) (List.length (List.map slE l)), AV.vsl ((0 : Nat) + (1 : Nat)) (0 : Nat) (List.length (List.map wrE w)), AV.any, AV.any, AV.any, AV.vsl ((0 : Nat) + (1 : Nat) + (1 : Nat)) (0 : Nat) (List.length l), AV.int IntKind.i64 ((↑p : Int) + (1 : Int)), AV.any, AV.any, AV.any, AV.any, AV.any, AV.any, AV.any, AV.any, AV.any, AV.any, AV.any, AV.any, AV.any, AV.any, AV.any, AV.any, AV.any, AV.any, AV.any, AV.any, AV.any, AV.any, AV.any, AV.any, AV.any, AV.any, AV.any, AV.any, AV.any] [some (Blk.mk false (50 : TypeId) (7 : Nat) true (List.map slE l)), some (Blk.mk false (52 : TypeId) (8 : Nat) true (List.map wrE w)), some (Blk.mk true (nat_lit 50) (7 : Nat) true (F (apL l (List.take (p + (1 : Nat)) w))))] = apSt F l w p' ∧ Nat.le p' (List.length w) ∧ List.length w + (1 : Nat) - p' < List.length w + (1 : Nat) - p) ∧ (mayS (Wr.mk (at' w p).1 (Sl.mk (Wr.s (at' w p)).1 (En.mk (Sl.e (Wr.s (at' w p))).1 (Sl.e (Wr.s (at' w p))).2 (Sl.e (Wr.s (at' w p))).3 (Sl.e (Wr.s (at' w p))).4 (Sl.e (Wr.s (at' w p))).5 (Sl.e (Wr.s (at' w p))).6))) (↑(List.length l) : Int) = false → inRange IntKind.i64 ((↑p : Int) + (1 : Int)) ∧ ∃ (p' : Nat), St.mk [AV.vsl (0 : Nat) (0 : Nat) (List.length (List.map slE l)), AV.vsl ((0 : Nat) + (1 : Nat)) (0 : Nat) (List.length (List.map wrE w)), AV.any, AV.any, AV.any, AV.vsl ((0 : Nat) + (1 : Nat) + (1 : Nat)) (0 : Nat) (List.length l), AV.int IntKind.i64 ((↑p : Int) + (1 : Int)), AV.any, AV.any, AV.any, AV.any, AV.any, AV.any, AV.any, AV.any, AV.any, AV.any, AV.any, AV.any, AV.any, AV.any, AV.any, AV.any, AV.any, AV.any, AV.any, AV.any, AV.any, AV.any, AV.any, AV.any, AV.any, AV.any, AV.any, AV.any, AV.any] [some (Blk.mk false (50 : TypeId) (7 : Nat) true (List.map slE l)), some (Blk.mk false (52 : TypeId) (8 : Nat) true (List.map wrE w)), some (Blk.mk true (50 : TypeId) (7 : Nat) true (F (apL l (List.take p w))))] = apSt F l w p' ∧ Nat.le p' (List.length w) ∧ List.length w + (1 : Nat) - p' < List.length w + (1 : Nat) - p)) ∧ (Decidable.decide ((↑p : Int) < (↑(List.length (List.map wrE w)) : Int)) = false → List.length l = List.length es ∧ some (Blk.mk true (50 : TypeId) (7 : Nat) true (F (apL l (List.take p w)))) = some (Blk.mk true (50 : TypeId) (7 : Nat) true es))) := by kernel_rfl

theorem rapply8Cs_ok : ∀ e ∈ rapply8Cs, SpecOK Try.prog e.1 e.2 := by
  intro e he
  simp only [rapply8Cs, List.mem_cons, List.not_mem_nil, or_false] at he
  rcases he with rfl
  · exact rmay8_ok

theorem rapply8_ok : SpecOK Try.prog 19 (genSpec [pRefS, pRefW] rapply8F) := by
  refine genSpec_ok (run_ok (l := rapply8Cs) rapply8Cs_ok mixed noNG) fun l R hF => ?_
  unfold rapply8F at hF
  split at hF
  · rename_i r_l r_w
    obtain ⟨hr_l, hl, hF⟩ := hF
    generalize deS r_l = l at hr_l hl hF
    subst hr_l
    obtain ⟨hr_w, hw, hF⟩ := hF
    generalize deW r_w = w at hr_w hw hF
    subst hr_w
    refine ⟨_, hF, trivial, (apH (List.map slE) l w), ?_⟩
    show run rapply8Cs Try.prog _ [.vsl 0 0 (l.map slE).length, .vsl 1 0 (w.map wrE).length] [some ⟨false, (pRefS.getD (0, 0)).1, (pRefS.getD (0, 0)).2, true, (l.map slE)⟩, some ⟨false, (pRefW.getD (0, 0)).1, (pRefW.getD (0, 0)).2, true, (w.map wrE)⟩] _ _
    rw [rapply8_run]
    have hlw : ∀ q, (apL l (w.take q)).length = l.length := fun q => apL_length _ _
    refine ⟨⟨by rw [List.length_map]; omega, by rw [List.length_map]; omega, by omega, Nat.zero_le _⟩, by rw [List.nil_append, whole_row], ⟨by unfold apSt; rw [List.length_map (f := slE), Nat.zero_add (l.length)]; rfl, Nat.zero_le _⟩, ?_⟩
    intro p (hp : p ≤ w.length)
    refine ⟨fun hlt => ?_, fun hge => ?_⟩
    · have hlt : p < w.length := by simp only [decide_eq_true_eq, List.length_map] at hlt; omega
      have B : 0 ≤ (p : Int) ∧ (p : Int) < ((w.map wrE).length : Int) := by rw [List.length_map]; omega
      have e : apL l (w.take (p + 1)) = apS (apL l (w.take p)) (at' w p) := by rw [take_one hlt, apL_snoc]
      refine ⟨B, read_rows B.1 B.2 (rwr_whole _), fun hm => ?_, fun hm => ?_⟩
      · have hm : mayS (at' w p) l.length = true := hm
        have hi := mayS_is hm
        have hi2 : (at' w p).p < ((apL l (w.take p)).length : Int) := by rw [hlw]; exact hi.2
        refine ⟨B, read_rows B.1 B.2 (wr_at _), B, read_rows B.1 B.2 (rwr_slot _), hi, fit_rows hi.1 hi2 rfl, wr_rows (x := (at' w p).s) hi.1 hi2 rfl ?_, inR (by omega) (by omega), p + 1, rfl, hlt, by omega⟩
        rw [e]
        unfold apS
        rw [hlw, if_pos hm]
      · have hm : mayS (at' w p) l.length = false := hm
        refine ⟨inR (by omega) (by omega), p + 1, ?_, hlt, by omega⟩
        have e2 : apL l (w.take (p + 1)) = apL l (w.take p) := by
          rw [e]; unfold apS; rw [hlw, hm]; rfl
        unfold apSt
        rw [e2]; rfl
    · have hp : p = w.length := by simp only [decide_eq_false_iff_not, List.length_map] at hge; omega
      subst hp
      rw [List.take_length, List.length_map, apL_length]
      exact ⟨rfl, rfl⟩
  · exact hF.elim


def rentries8F : List Arg → (Res → Prop) → Prop
  | [.row r_l], R => r_l = (deS r_l).map slE ∧ (deS r_l).length ≤ 1000000 ∧ R (.vrow 48 6 ((ensS (deS r_l)).map enE))
  | _, _ => False

theorem rentries8_run (l : List Sl) (F : List En → List AV) (es : List AV) : run [] Try.prog 25 [.vsl 0 0 (l.map slE).length] [some ⟨false, (pRefS.getD (0, 0)).1, (pRefS.getD (0, 0)).2, true, (l.map slE)⟩] (enH F l) (yields (.vrow 48 6 es)) =
    ((St.mk [AV.vsl (0 : Nat) (0 : Nat) (List.length (List.map slE l)), AV.any, AV.any, AV.vsl (List.length [some (Blk.mk false (nat_lit 50) (7 : Nat) true (List.map slE l))]) (0 : Nat) (0 : Nat), AV.int IntKind.i64 (0 : Int), AV.any, AV.any, AV.any, AV.any, AV.any, AV.any, AV.any, AV.any, AV.any, AV.any, AV.any, AV.any, AV.any, AV.any, AV.any, AV.any, AV.any, AV.any, AV.any, AV.any] ([some (Blk.mk false (nat_lit 50) (7 : Nat) true (List.map slE l))] ++ [some (Blk.mk true (48 : TypeId) (6 : Nat) true [])]) = enSt F l (0 : Nat) ∧ Nat.le (0 : Nat) (List.length l)) ∧ ∀ (p : Nat), Nat.le p (List.length l) → (Decidable.decide ((↑p : Int) < (↑(List.length (List.map slE l)) : Int)) = true → ((0 : Int) ≤ (↑p : Int) ∧ (↑p : Int) < (↑(List.length (List.map slE l)) : Int)) ∧ Blk.read Proofs.Try.prog (Blk.mk false (50 : TypeId) (7 : Nat) true (List.map slE l)) (4 : Nat) ((0 : Nat) + Int.toNat (↑p : Int)) ((0 : Nat) + (0 : Nat)) = some (AV.bool (at' l p).1) ∧ ((at' l p).1 = true → ((0 : Int) ≤ (↑p : Int) ∧ (↑p : Int) < (↑(List.length (List.map slE l)) : Int)) ∧ Blk.read Proofs.Try.prog (Blk.mk false (50 : TypeId) (7 : Nat) true (List.map slE l)) (48 : Nat) ((0 : Nat) + Int.toNat (↑p : Int)) ((0 : Nat) + (1 : Nat)) = some (AV.agg [AV.w64 (Sl.e (at' l p)).1, AV.w64 (Sl.e (at' l p)).2, AV.w64 (Sl.e (at' l p)).3, AV.w64 (Sl.e (at' l p)).4, AV.int IntKind.i64 (Sl.e (at' l p)).5, AV.int IntKind.i64 (Sl.e (at' l p)).6]) ∧ ((List.length (ensS (List.take p l)) + (1 : Nat)) * (48 : Nat) ≤ (140737488355328 : Nat) ∧ List.length (ensS (List.take p l)) + (1 : Nat) ≤ (9223372036854775807 : Nat) ∧ (0 : Nat) + (1 : Nat) ≤ List.length [AV.agg [AV.w64 (Sl.e (at' l p)).1, AV.w64 (Sl.e (at' l p)).2, AV.w64 (Sl.e (at' l p)).3, AV.w64 (Sl.e (at' l p)).4, AV.int IntKind.i64 (Sl.e (at' l p)).5, AV.int IntKind.i64 (Sl.e (at' l p)).6]] ∧ List.length (ensS (List.take p l)) ≤ List.length (F (ensS (List.take p l)))) ∧ List.take (List.length (ensS (List.take p l))) (F (ensS (List.take p l))) ++ [AV.agg [AV.w64 (Sl.e (at' l p)).1, AV.w64 (Sl.e (at' l p)).2, AV.w64 (Sl.e (at' l p)).3, AV.w64 (Sl.e (at' l p)).4, AV.int IntKind.i64 (Sl.e (at' l p)).5, AV.int IntKind.i64 (Sl.e (at' l p)).6]] = F (ensS (List.take (p + (1 : Nat)) l)) ∧ inRange IntKind.i64 ((↑p : Int) + (1 : Int)) ∧ ∃ (p' : Nat), St.mk [AV.vsl (0 : Nat) (0 : Nat) (List.length (List.map slE l)), AV.any, AV.any, AV.vsl ((0 : Nat) + (1 : Nat)) (0 : Nat) (List.length (ensS (List.take p l)) + (1 : Nat)), AV.int IntKind.i64 ((↑p : Int) + (1 : Int)), AV.any, AV.any, AV.any, AV.any, AV.any, AV.any, AV.any, AV.any, AV.any, AV.any, AV.any, AV.any, AV.any, AV.any, AV.any, AV.any, AV.any, AV.any, AV.any, AV.any] [some (Blk.mk false (50 : TypeId) (7 : Nat) true (List.map slE l)), some (Blk.mk true (48 : Nat) (6 : Nat) true (F (ensS (List.take (p + (1 : Nat)) l))))] = enSt F l p' ∧ Nat.le p' (List.length l) ∧ List.length l + (1 : Nat) - p' < List.length l + (1 : Nat) - p) ∧ ((at' l p).1 = false → inRange IntKind.i64 ((↑p : Int) + (1 : Int)) ∧ ∃ (p' : Nat), St.mk [AV.vsl (0 : Nat) (0 : Nat) (List.length (List.map slE l)), AV.any, AV.any, AV.vsl ((0 : Nat) + (1 : Nat)) (0 : Nat) (List.length (ensS (List.take p l))), AV.int IntKind.i64 ((↑p : Int) + (1 : Int)), AV.any, AV.any, AV.any, AV.any, AV.any, AV.any, AV.any, AV.any, AV.any, AV.any, AV.any, AV.any, AV.any, AV.any, AV.any, AV.any, AV.any, AV.any, AV.any, AV.any] [some (Blk.mk false (50 : TypeId) (7 : Nat) true (List.map slE l)), some (Blk.mk true (48 : TypeId) (6 : Nat) true (F (ensS (List.take p l))))] = enSt F l p' ∧ Nat.le p' (List.length l) ∧ List.length l + (1 : Nat) - p' < List.length l + (1 : Nat) - p)) ∧ (Decidable.decide ((↑p : Int) < (↑(List.length (List.map slE l)) : Int)) = false → List.length (ensS (List.take p l)) = List.length es ∧ some (Blk.mk true (48 : TypeId) (6 : Nat) true (F (ensS (List.take p l)))) = some (Blk.mk true (48 : TypeId) (6 : Nat) true es))) := by kernel_rfl

theorem rentries8_ok : SpecOK Try.prog 25 (genSpec [pRefS] rentries8F) := by
  refine genSpec_ok none_ok fun l R hF => ?_
  unfold rentries8F at hF
  split at hF
  · rename_i r_l
    obtain ⟨hr_l, hl, hF⟩ := hF
    generalize deS r_l = l at hr_l hl hF
    subst hr_l
    refine ⟨_, hF, trivial, (enH (List.map enE) l), ?_⟩
    show run [] Try.prog _ [.vsl 0 0 (l.map slE).length] [some ⟨false, (pRefS.getD (0, 0)).1, (pRefS.getD (0, 0)).2, true, (l.map slE)⟩] _ _
    rw [rentries8_run]
    have hle : ∀ q, (ensS (l.take q)).length ≤ 1000000 := fun q => by have := ensS_length (l.take q); rw [List.length_take] at this; omega
    refine ⟨⟨rfl, Nat.zero_le _⟩, ?_⟩
    intro p (hp : p ≤ l.length)
    refine ⟨fun hlt => ?_, fun hge => ?_⟩
    · have hlt : p < l.length := by simp only [decide_eq_true_eq, List.length_map] at hlt; omega
      have B : 0 ≤ (p : Int) ∧ (p : Int) < ((l.map slE).length : Int) := by rw [List.length_map]; omega
      have e : ensS (l.take (p + 1)) = if (at' l p).ok then ensS (l.take p) ++ [(at' l p).e] else ensS (l.take p) := by rw [take_one hlt, ensS_snoc]
      refine ⟨B, read_rows B.1 B.2 (sl_ok _), fun ho => ?_, fun ho => ?_⟩
      · rw [ho, if_pos rfl] at e
        have := hle p
        refine ⟨B, read_rows B.1 B.2 (rsl_entry _), ⟨by omega, by omega, by simp, by rw [List.length_map]; exact Nat.le_refl _⟩, ?_, inR (by omega) (by omega), p + 1, ?_, hlt, by omega⟩
        · rw [List.take_of_length_le (by rw [List.length_map]; exact Nat.le_refl _), e, List.map_append]
          rfl
        · unfold enSt
          rw [e, List.length_append]
          rfl
      · rw [ho] at e
        refine ⟨inR (by omega) (by omega), p + 1, ?_, hlt, by omega⟩
        unfold enSt
        rw [e]; rfl
    · have hp : p = l.length := by simp only [decide_eq_false_iff_not, List.length_map] at hge; omega
      subst hp
      rw [List.take_length, List.length_map]
      exact ⟨rfl, rfl⟩
  · exact hF.elim


def rfind8F : List Arg → (Res → Prop) → Prop
  | [.row r_l, .v (.agg [.w64 a, .w64 b])], R => r_l = (deS r_l).map slE ∧ (deS r_l).length ≤ 9223372036854775807 ∧ R (.v (.int .i64 (fnS (deS r_l) a b)))
  | _, _ => False

noncomputable def rfind8Cs : List (FuncId × Sx.Spec) := [(41, genSpec [none, none] wmatchF)]

theorem rfind8_run (l : List Sl) (a b : BitVec 64) (r : AV) : run rfind8Cs Try.prog 22 [.vsl 0 0 (l.map slE).length, .agg [.w64 a, .w64 b]] [some ⟨false, (pRefS.getD (0, 0)).1, (pRefS.getD (0, 0)).2, true, (l.map slE)⟩] (fnH l a b) (yields (.v r)) =
    ((St.mk [AV.vsl (0 : Nat) (0 : Nat) (List.length (List.map slE l)), AV.any, AV.any, AV.ptr ((0 : Nat) + (1 : Nat)) (0 : Nat) (0 : Nat) true, AV.any, AV.int IntKind.i64 (0 : Int), AV.any, AV.any, AV.any, AV.any, AV.any, AV.any, AV.any, AV.any, AV.any, AV.any, AV.any, AV.any, AV.any, AV.any, AV.any, AV.any, AV.any, AV.any, AV.any, AV.any, AV.any, AV.any] [some (Blk.mk false (nat_lit 50) (7 : Nat) true (List.map slE l)), some (Blk.mk true (30 : Nat) (2 : Nat) true [AV.agg [AV.w64 a, AV.w64 b]])] = fnSt l a b (0 : Nat) ∧ fnI l a b (0 : Nat)) ∧ ∀ (p : Nat), fnI l a b p → (Decidable.decide ((↑p : Int) < (↑(List.length (List.map slE l)) : Int)) = true → ((0 : Int) ≤ (↑p : Int) ∧ (↑p : Int) < (↑(List.length (List.map slE l)) : Int)) ∧ Blk.read Proofs.Try.prog (Blk.mk false (50 : TypeId) (7 : Nat) true (List.map slE l)) (4 : Nat) ((0 : Nat) + Int.toNat (↑p : Int)) ((0 : Nat) + (0 : Nat)) = some (AV.bool (at' l p).1) ∧ ((at' l p).1 = true → ((0 : Int) ≤ (↑p : Int) ∧ (↑p : Int) < (↑(List.length (List.map slE l)) : Int)) ∧ Blk.read Proofs.Try.prog (Blk.mk false (50 : TypeId) (7 : Nat) true (List.map slE l)) (46 : Nat) ((0 : Nat) + Int.toNat (↑p : Int)) ((0 : Nat) + (1 : Nat) + (0 : Nat)) = some (AV.agg [AV.w64 (Sl.e (at' l p)).1, AV.w64 (Sl.e (at' l p)).2, AV.w64 (Sl.e (at' l p)).3, AV.w64 (Sl.e (at' l p)).4]) ∧ (wmB (Sl.e (at' l p)).1 (Sl.e (at' l p)).2 (Sl.e (at' l p)).3 (Sl.e (at' l p)).4 a b = true → AV.int IntKind.i64 (↑p : Int) = r) ∧ (wmB (Sl.e (at' l p)).1 (Sl.e (at' l p)).2 (Sl.e (at' l p)).3 (Sl.e (at' l p)).4 a b = false → inRange IntKind.i64 ((↑p : Int) + (1 : Int)) ∧ ∃ (p' : Nat), St.mk [AV.vsl (0 : Nat) (0 : Nat) (List.length (List.map slE l)), AV.any, AV.any, AV.ptr ((0 : Nat) + (1 : Nat)) (0 : Nat) (0 : Nat) true, AV.any, AV.int IntKind.i64 ((↑p : Int) + (1 : Int)), AV.any, AV.any, AV.any, AV.any, AV.any, AV.any, AV.any, AV.any, AV.any, AV.any, AV.any, AV.any, AV.any, AV.any, AV.any, AV.any, AV.any, AV.any, AV.any, AV.any, AV.any, AV.any] [some (Blk.mk false (50 : TypeId) (7 : Nat) true (List.map slE l)), some (Blk.mk true (30 : TypeId) (2 : Nat) true [AV.agg [AV.w64 a, AV.w64 b]])] = fnSt l a b p' ∧ fnI l a b p' ∧ List.length l + (1 : Nat) - p' < List.length l + (1 : Nat) - p)) ∧ ((at' l p).1 = false → inRange IntKind.i64 ((↑p : Int) + (1 : Int)) ∧ ∃ (p' : Nat), St.mk [AV.vsl (0 : Nat) (0 : Nat) (List.length (List.map slE l)), AV.any, AV.any, AV.ptr ((0 : Nat) + (1 : Nat)) (0 : Nat) (0 : Nat) true, AV.any, AV.int IntKind.i64 ((↑p : Int) + (1 : Int)), AV.any, AV.any, AV.any, AV.any, AV.any, AV.any, AV.any, AV.any, AV.any, AV.any, AV.any, AV.any, AV.any, AV.any, AV.any, AV.any, AV.any, AV.any, AV.any, AV.any, AV.any, AV.any] [some (Blk.mk false (50 : TypeId) (7 : Nat) true (List.map slE l)), some (Blk.mk true (30 : TypeId) (2 : Nat) true [AV.agg [AV.w64 a, AV.w64 b]])] = fnSt l a b p' ∧ fnI l a b p' ∧ List.length l + (1 : Nat) - p' < List.length l + (1 : Nat) - p)) ∧ (Decidable.decide ((↑p : Int) < (↑(List.length (List.map slE l)) : Int)) = false → AV.int IntKind.i64 (-1 : Int) = r)) := by kernel_rfl

theorem rfind8Cs_ok : ∀ e ∈ rfind8Cs, SpecOK Try.prog e.1 e.2 := by
  intro e he
  simp only [rfind8Cs, List.mem_cons, List.not_mem_nil, or_false] at he
  rcases he with rfl
  · exact rwmatch_ok

theorem rfind8_ok : SpecOK Try.prog 22 (genSpec [pRefS, none] rfind8F) := by
  refine genSpec_ok (run_ok (l := rfind8Cs) rfind8Cs_ok mixed noNG) fun l R hF => ?_
  unfold rfind8F at hF
  split at hF
  · rename_i r_l a b
    obtain ⟨hr_l, hl, hF⟩ := hF
    generalize deS r_l = l at hr_l hl hF
    subst hr_l
    refine ⟨_, hF, rfl, (fnH l a b), ?_⟩
    show run rfind8Cs Try.prog _ [.vsl 0 0 (l.map slE).length, .agg [.w64 a, .w64 b]] [some ⟨false, (pRefS.getD (0, 0)).1, (pRefS.getD (0, 0)).2, true, (l.map slE)⟩] _ _
    rw [rfind8_run]
    refine ⟨⟨rfl, Nat.zero_le _, fun j hj => by omega⟩, ?_⟩
    rintro p ⟨h1, h2⟩
    refine ⟨fun hlt => ?_, fun hge => ?_⟩
    · have hp : p < l.length := by simp only [decide_eq_true_eq, List.length_map] at hlt; omega
      have B : 0 ≤ (p : Int) ∧ (p : Int) < ((l.map slE).length : Int) := by rw [List.length_map]; omega
      have nx : mtS a b (at' l p) = false → inRange .i64 ((p : Int) + 1) ∧ ∃ p', (⟨[.vsl 0 0 (l.map slE).length, .any, .any, .ptr 1 0 0 true, .any, .int .i64 ((p : Int) + 1), .any, .any, .any, .any, .any, .any, .any, .any, .any, .any, .any, .any, .any, .any, .any, .any, .any, .any, .any, .any, .any, .any], [some ⟨false, 50, 7, true, l.map slE⟩, some ⟨true, 30, 2, true, [.agg [.w64 a, .w64 b]]⟩]⟩ : St) = fnSt l a b p' ∧ fnI l a b p' ∧ l.length + 1 - p' < l.length + 1 - p := fun h => ⟨inR (by omega) (by omega), p + 1, rfl, ⟨by omega, up h2 h⟩, by omega⟩
      refine ⟨B, read_rows B.1 B.2 (sl_ok _), fun ho => ⟨B, read_rows B.1 B.2 (sl_word _), fun hm => ?_, fun hm => nx ?_⟩, fun ho => nx ?_⟩
      · have hm : mtS a b (at' l p) = true := by unfold mtS; rw [ho]; exact hm
        rw [(fnS_spec l a b).uniq (.inr ⟨p, rfl, hp, hm, h2⟩)]
      · unfold mtS; rw [ho]; exact hm
      · unfold mtS; rw [ho]; rfl
    · have hp : p = l.length := by simp only [decide_eq_false_iff_not, List.length_map] at hge; omega
      subst hp
      rw [(fnS_spec l a b).uniq (.inl ⟨rfl, h2⟩)]
  · exact hF.elim


def rtell8F : List Arg → (Res → Prop) → Prop
  | [.row r_l, .v (.agg [.w64 a, .w64 b])], R => r_l = (deS r_l).map slE ∧ (deS r_l).length ≤ 9223372036854775807 ∧ R (.v (.int .i64 (tlS (deS r_l) a b)))
  | _, _ => False

noncomputable def rtell8Cs : List (FuncId × Sx.Spec) := [(22, genSpec [pRefS, none] rfind8F)]

theorem rtell8_run (l : List Sl) (a b : BitVec 64) (r : AV) : run rtell8Cs Try.prog 30 [.vsl 0 0 (l.map slE).length, .agg [.w64 a, .w64 b]] [some ⟨false, (pRefS.getD (0, 0)).1, (pRefS.getD (0, 0)).2, true, (l.map slE)⟩] [.fork [] [.dy, .cell (.int .i64 (at' l (fnS l a b).toNat).e.act)]] (yields (.v r)) =
    ((0 : Nat) + List.length (List.map slE l) ≤ List.length (List.map slE l) ∧ List.take (List.length (List.map slE l)) (List.drop (0 : Nat) (List.map slE l)) = List.map slE (deS (List.take (List.length (List.map slE l)) (List.drop (0 : Nat) (List.map slE l)))) ∧ List.length (deS (List.take (List.length (List.map slE l)) (List.drop (0 : Nat) (List.map slE l)))) ≤ (9223372036854775807 : Nat) ∧ (Decidable.decide (fnS (deS (List.take (List.length (List.map slE l)) (List.drop (0 : Nat) (List.map slE l)))) a b < (0 : Int)) = true → AV.int IntKind.i64 (0 : Int) = r) ∧ (Decidable.decide (fnS (deS (List.take (List.length (List.map slE l)) (List.drop (0 : Nat) (List.map slE l)))) a b < (0 : Int)) = false → ((0 : Int) ≤ fnS (deS (List.take (List.length (List.map slE l)) (List.drop (0 : Nat) (List.map slE l)))) a b ∧ fnS (deS (List.take (List.length (List.map slE l)) (List.drop (0 : Nat) (List.map slE l)))) a b < (↑(List.length (List.map slE l)) : Int)) ∧ Blk.read Proofs.Try.prog (Blk.mk false (nat_lit 50) (7 : Nat) true (List.map slE l)) (3 : Nat) ((0 : Nat) + Int.toNat (fnS (deS (List.take (List.length (List.map slE l)) (List.drop (0 : Nat) (List.map slE l)))) a b)) ((0 : Nat) + (1 : Nat) + (5 : Nat)) = some (AV.int IntKind.i64 (Sl.e (at' l (Int.toNat (fnS l a b)))).6) ∧ AV.int IntKind.i64 (Sl.e (at' l (Int.toNat (fnS l a b)))).6 = r)) := by kernel_rfl

theorem rtell8Cs_ok : ∀ e ∈ rtell8Cs, SpecOK Try.prog e.1 e.2 := by
  intro e he
  simp only [rtell8Cs, List.mem_cons, List.not_mem_nil, or_false] at he
  rcases he with rfl
  · exact rfind8_ok

theorem rtell8_ok : SpecOK Try.prog 30 (genSpec [pRefS, none] rtell8F) := by
  refine genSpec_ok (run_ok (l := rtell8Cs) rtell8Cs_ok mixed noNG) fun l R hF => ?_
  unfold rtell8F at hF
  split at hF
  · rename_i r_l a b
    obtain ⟨hr_l, hl, hF⟩ := hF
    generalize deS r_l = l at hr_l hl hF
    subst hr_l
    refine ⟨_, hF, rfl, [.fork [] [.dy, .cell (.int .i64 (at' l (fnS l a b).toNat).e.act)]], ?_⟩
    show run rtell8Cs Try.prog _ [.vsl 0 0 (l.map slE).length, .agg [.w64 a, .w64 b]] [some ⟨false, (pRefS.getD (0, 0)).1, (pRefS.getD (0, 0)).2, true, (l.map slE)⟩] _ _
    rw [rtell8_run]
    rw [whole_row, deS_map]
    refine ⟨by omega, rfl, hl, fun h => ?_, fun h => ?_⟩
    · have h := of_decide_eq_true h
      unfold tlS
      rw [if_pos h]
    · have h := of_decide_eq_false h
      have B : 0 ≤ fnS l a b ∧ fnS l a b < ((l.map slE).length : Int) := by
        rcases fnS_spec l a b with ⟨h1, _⟩ | ⟨i, h1, h2, _⟩
        · omega
        · rw [h1, List.length_map]; omega
      refine ⟨B, read_rows B.1 B.2 (sl_act _), ?_⟩
      unfold tlS
      rw [if_neg h]
  · exact hF.elim


end Go.Proofs.Yteagcgocmdjobaa.L1
end

section
/-
  Layer 8: contracts of the law's One, Of, Writes, Same.
-/
namespace Go.Proofs.Yteagcgocmdjobaa.L1
open Go.Sx Go.Sx.M

def of8St (F : List Sl → List AV) (l : List Sl) (p : Nat) : St :=
  ⟨[.any, .any, .any, .vsl 1 0 p, .any, .any, .vsl 0 0 (l.map slE).length, .int .i64 (l.map slE).length, .int .i64 p, .any, .any, .any, .any, .any, .any, .any, .any, .any, .any], [some ⟨false, 37, 7, true, l.map slE⟩, some ⟨true, 50, 7, true, F (l.take p)⟩]⟩
def of8M0 : Modes := ⟨[0, 0, 0, 1, 0, 0, 1, 1, 2, 0, 0, 0, 0, 0, 0, 0, 0, 0, 0], [], [], [], [(3, 50, 7)]⟩
def of8M : Modes := ⟨[0, 0, 0, 1, 0, 0, 1, 1, 1, 0, 0, 0, 0, 0, 0, 0, 0, 0, 0], [], [], [], []⟩
def of8H (F : List Sl → List AV) (l : List Sl) : List Hint := [.linv _ 0 (of8St F l) (fun p => p ≤ l.length) (fun p => l.length + 1 - p) of8M0 of8M of8M (fun _ => []) fun p =>
  [.fork [.dy, .cell (slE (at' l p)), .rows (F (l.take (p + 1))), .nw] []]]

def ws8St (F : List Wr → List AV) (l : List Wr) (p : Nat) : St :=
  ⟨[.any, .any, .any, .vsl 1 0 p, .any, .any, .vsl 0 0 (l.map wrE).length, .int .i64 (l.map wrE).length, .int .i64 p, .any, .any, .any, .any, .any, .any, .any, .any, .any, .any, .any, .any, .any, .any], [some ⟨false, 39, 8, true, l.map wrE⟩, some ⟨true, 52, 8, true, F (l.take p)⟩]⟩
def ws8M0 : Modes := ⟨[0, 0, 0, 1, 0, 0, 1, 1, 2, 0, 0, 0, 0, 0, 0, 0, 0, 0, 0, 0, 0, 0, 0], [], [], [], [(3, 52, 8)]⟩
def ws8M : Modes := ⟨[0, 0, 0, 1, 0, 0, 1, 1, 1, 0, 0, 0, 0, 0, 0, 0, 0, 0, 0, 0, 0, 0, 0], [], [], [], []⟩
def ws8H (F : List Wr → List AV) (l : List Wr) : List Hint := [.linv _ 0 (ws8St F l) (fun p => p ≤ l.length) (fun p => l.length + 1 - p) ws8M0 ws8M ws8M (fun _ => []) fun p =>
  [.fork [.dy, .cell (wrE (at' l p)), .rows (F (l.take (p + 1))), .nw] []]]

def sm8St (l m : List Sl) (p : Nat) : St :=
  ⟨[.vsl 0 0 (l.map slE).length, .vsl 1 0 (m.map slE).length, .any, .any, .any, .any, .any, .any, .any, .any, .any, .any, .int .i64 (l.map slE).length, .int .i64 p, .any, .any, .any, .any, .any, .any, .any, .any, .any, .any, .any, .any, .any], [some ⟨false, 37, 7, true, l.map slE⟩, some ⟨false, 50, 7, true, m.map slE⟩]⟩
def sm8M0 : Modes := ⟨[1, 1, 0, 0, 0, 0, 0, 0, 0, 0, 0, 0, 1, 2, 0, 0, 0, 0, 0, 0, 0, 0, 0, 0, 0, 0, 0], [], [], [], []⟩
def sm8M : Modes := ⟨[1, 1, 0, 0, 0, 0, 0, 0, 0, 0, 0, 0, 1, 1, 0, 0, 0, 0, 0, 0, 0, 0, 0, 0, 0, 0, 0], [], [], [], []⟩
def sm8M' : Modes := ⟨[0, 0, 0, 0, 2, 0, 0, 0, 0, 0, 0, 0, 0, 0, 0, 0, 0, 0, 0, 0, 0, 0, 0, 0, 0, 0, 0], [], [], [], []⟩
def sm8I (l m : List Sl) (p : Nat) : Prop := p ≤ l.length ∧ ∀ j, j < p → at' l j = at' m j
def sm8H (l m : List Sl) : List Hint := [.fork [] [.linv _ 0 (sm8St l m) (sm8I l m) (fun p => l.length + 1 - p) sm8M0 sm8M sm8M' (fun _ => []) fun p =>
  [.fork [.dy, .cell (slE (at' l p)), .dy, .cell (slE (at' m p)), .fork [] [.nw]] []]]]

def one8F : List Arg → (Res → Prop) → Prop
  | [.v (.agg [.bool o, .w64 v, .w64 w, .w64 m, .w64 n, .int .i64 k, .int .i64 j])], R => R (.v (.agg [.bool o, .w64 v, .w64 w, .w64 m, .w64 n, .int .i64 k, .int .i64 j]))
  | _, _ => False

noncomputable def one8Cs : List (FuncId × Sx.Spec) := [(26, genSpec [none] one5F)]

theorem one8_run (o : Bool) (v w m n : BitVec 64) (k j : Int) (r : AV) : run one8Cs Try.prog 35 [.agg [.bool o, .w64 v, .w64 w, .w64 m, .w64 n, .int .i64 k, .int .i64 j]] [] [] (yields (.v r)) =
    (AV.agg [AV.bool o, AV.w64 v, AV.w64 w, AV.w64 m, AV.w64 n, AV.int IntKind.i64 k, AV.int IntKind.i64 j] = r) := by kernel_rfl

theorem one8Cs_ok : ∀ e ∈ one8Cs, SpecOK Try.prog e.1 e.2 := by
  intro e he
  simp only [one8Cs, List.mem_cons, List.not_mem_nil, or_false] at he
  rcases he with rfl
  · exact one5_ok

theorem one8_ok : SpecOK Try.prog 35 (genSpec [none] one8F) := by
  refine genSpec_ok (run_ok (l := one8Cs) one8Cs_ok mixed noNG) fun l R hF => ?_
  unfold one8F at hF
  split at hF
  · rename_i o v w m n k j
    refine ⟨_, hF, rfl, [], ?_⟩
    show run one8Cs Try.prog _ [.agg [.bool o, .w64 v, .w64 w, .w64 m, .w64 n, .int .i64 k, .int .i64 j]] [] _ _
    rw [one8_run]
    all_goals rfl
  · exact hF.elim


def of8F : List Arg → (Res → Prop) → Prop
  | [.row r_l], R => r_l = (deS r_l).map slE ∧ (deS r_l).length ≤ 1000000 ∧ R (.vrow 50 7 ((deS r_l).map slE))
  | _, _ => False

noncomputable def of8Cs : List (FuncId × Sx.Spec) := [(35, genSpec [none] one8F)]

theorem of8_run (l : List Sl) (F : List Sl → List AV) (es : List AV) : run of8Cs Try.prog 23 [.vsl 0 0 (l.map slE).length] [some ⟨false, (pSl.getD (0, 0)).1, (pSl.getD (0, 0)).2, true, (l.map slE)⟩] (of8H F l) (yields (.vrow 50 7 es)) =
    ((St.mk [AV.any, AV.any, AV.any, AV.vsl (List.length [some (Blk.mk false (nat_lit 37) (7 : Nat) true (List.map slE l))]) (0 : Nat) (0 : Nat), AV.any, AV.any, AV.vsl (0 : Nat) (0 : Nat) (List.length (List.map slE l)), AV.int IntKind.i64 (↑(List.length (List.map slE l)) : Int), AV.int IntKind.i64 (0 : Int), AV.any, AV.any, AV.any, AV.any, AV.any, AV.any, AV.any, AV.any, AV.any, AV.any] ([some (Blk.mk false (nat_lit 37) (7 : Nat) true (List.map slE l))] ++ [some (Blk.mk true (50 : TypeId) (7 : Nat) true [])]) = of8St F l (0 : Nat) ∧ Nat.le (0 : Nat) (List.length l)) ∧ ∀ (p : Nat), Nat.le p (List.length l) → (Decidable.decide ((↑p : Int) < (↑(List.length (List.map slE l)) : Int)) = true → ((0 : Int) ≤ (↑p : Int) ∧ (↑p : Int) < (↑(List.length (List.map slE l)) : Int)) ∧ Blk.read Proofs.Try.prog (Blk.mk false (37 : TypeId) (7 : Nat) true (List.map slE l)) (37 : Nat) ((0 : Nat) + Int.toNat (↑p : Int)) (0 : Nat) = some (AV.agg [AV.bool (at' l p).1, AV.w64 (Sl.e (at' l p)).1, AV.w64 (Sl.e (at' l p)).2, AV.w64 (Sl.e (at' l p)).3, AV.w64 (Sl.e (at' l p)).4, AV.int IntKind.i64 (Sl.e (at' l p)).5, AV.int IntKind.i64 (Sl.e (at' l p)).6]) ∧ ((p + (1 : Nat)) * (56 : Nat) ≤ (140737488355328 : Nat) ∧ p + (1 : Nat) ≤ (9223372036854775807 : Nat) ∧ (0 : Nat) + (1 : Nat) ≤ List.length [AV.agg [AV.bool (at' l p).1, AV.w64 (Sl.e (at' l p)).1, AV.w64 (Sl.e (at' l p)).2, AV.w64 (Sl.e (at' l p)).3, AV.w64 (Sl.e (at' l p)).4, AV.int IntKind.i64 (Sl.e (at' l p)).5, AV.int IntKind.i64 (Sl.e (at' l p)).6]] ∧ p ≤ List.length (F (List.take p l))) ∧ List.take p (F (List.take p l)) ++ [AV.agg [AV.bool (at' l p).1, AV.w64 (Sl.e (at' l p)).1, AV.w64 (Sl.e (at' l p)).2, AV.w64 (Sl.e (at' l p)).3, AV.w64 (Sl.e (at' l p)).4, AV.int IntKind.i64 (Sl.e (at' l p)).5, AV.int IntKind.i64 (Sl.e (at' l p)).6]] = F (List.take (p + (1 : Nat)) l) ∧ inRange IntKind.i64 ((↑p : Int) + (1 : Int)) ∧ ∃ (p' : Nat), St.mk [AV.any, AV.any, AV.any, AV.vsl ((0 : Nat) + (1 : Nat)) (0 : Nat) (p + (1 : Nat)), AV.any, AV.any, AV.vsl (0 : Nat) (0 : Nat) (List.length (List.map slE l)), AV.int IntKind.i64 (↑(List.length (List.map slE l)) : Int), AV.int IntKind.i64 ((↑p : Int) + (1 : Int)), AV.any, AV.any, AV.any, AV.any, AV.any, AV.any, AV.any, AV.any, AV.any, AV.any] [some (Blk.mk false (37 : TypeId) (7 : Nat) true (List.map slE l)), some (Blk.mk true (50 : Nat) (7 : Nat) true (F (List.take (p + (1 : Nat)) l)))] = of8St F l p' ∧ Nat.le p' (List.length l) ∧ List.length l + (1 : Nat) - p' < List.length l + (1 : Nat) - p) ∧ (Decidable.decide ((↑p : Int) < (↑(List.length (List.map slE l)) : Int)) = false → p = List.length es ∧ some (Blk.mk true (50 : TypeId) (7 : Nat) true (F (List.take p l))) = some (Blk.mk true (50 : TypeId) (7 : Nat) true es))) := by kernel_rfl

theorem of8Cs_ok : ∀ e ∈ of8Cs, SpecOK Try.prog e.1 e.2 := by
  intro e he
  simp only [of8Cs, List.mem_cons, List.not_mem_nil, or_false] at he
  rcases he with rfl
  · exact one8_ok

theorem of8_ok : SpecOK Try.prog 23 (genSpec [pSl] of8F) := by
  refine genSpec_ok (run_ok (l := of8Cs) of8Cs_ok mixed noNG) fun l R hF => ?_
  unfold of8F at hF
  split at hF
  · rename_i r_l
    obtain ⟨hr_l, hl, hF⟩ := hF
    generalize deS r_l = l at hr_l hl hF
    subst hr_l
    refine ⟨_, hF, trivial, (of8H (List.map slE) l), ?_⟩
    show run of8Cs Try.prog _ [.vsl 0 0 (l.map slE).length] [some ⟨false, (pSl.getD (0, 0)).1, (pSl.getD (0, 0)).2, true, (l.map slE)⟩] _ _
    rw [of8_run]
    have lt : ∀ p, p ≤ l.length → ((l.take p).map slE).length = p := fun p hp => by rw [List.length_map, List.length_take]; omega
    refine ⟨⟨rfl, Nat.zero_le _⟩, ?_⟩
    intro p (hp : p ≤ l.length)
    refine ⟨fun hlt => ?_, fun hge => ?_⟩
    · have hlt : p < l.length := by simp only [decide_eq_true_eq, List.length_map] at hlt; omega
      have B : 0 ≤ (p : Int) ∧ (p : Int) < ((l.map slE).length : Int) := by rw [List.length_map]; omega
      refine ⟨B, read_rows B.1 B.2 (sl_whole _), ⟨by omega, by omega, by simp, by rw [lt p hp]; omega⟩, ?_, inR (by omega) (by omega), p + 1, rfl, hlt, by omega⟩
      rw [List.take_of_length_le (by rw [lt p hp]; omega), List.take_add_one, at_get hlt, List.map_append]
      rfl
    · have hp : p = l.length := by simp only [decide_eq_false_iff_not, List.length_map] at hge; omega
      subst hp
      rw [List.take_length, List.length_map]
      exact ⟨rfl, rfl⟩
  · exact hF.elim


def writes8F : List Arg → (Res → Prop) → Prop
  | [.row r_l], R => r_l = (deW r_l).map wrE ∧ (deW r_l).length ≤ 1000000 ∧ R (.vrow 52 8 ((deW r_l).map wrE))
  | _, _ => False

noncomputable def writes8Cs : List (FuncId × Sx.Spec) := [(35, genSpec [none] one8F)]

theorem writes8_run (l : List Wr) (F : List Wr → List AV) (es : List AV) : run writes8Cs Try.prog 14 [.vsl 0 0 (l.map wrE).length] [some ⟨false, (pWr.getD (0, 0)).1, (pWr.getD (0, 0)).2, true, (l.map wrE)⟩] (ws8H F l) (yields (.vrow 52 8 es)) =
    ((St.mk [AV.any, AV.any, AV.any, AV.vsl (List.length [some (Blk.mk false (nat_lit 39) (8 : Nat) true (List.map wrE l))]) (0 : Nat) (0 : Nat), AV.any, AV.any, AV.vsl (0 : Nat) (0 : Nat) (List.length (List.map wrE l)), AV.int IntKind.i64 (↑(List.length (List.map wrE l)) : Int), AV.int IntKind.i64 (0 : Int), AV.any, AV.any, AV.any, AV.any, AV.any, AV.any, AV.any, AV.any, AV.any, AV.any, AV.any, AV.any, AV.any, AV.any] ([some (Blk.mk false (nat_lit 39) (8 : Nat) true (List.map wrE l))] ++ [some (Blk.mk true (52 : TypeId) (8 : Nat) true [])]) = ws8St F l (0 : Nat) ∧ Nat.le (0 : Nat) (List.length l)) ∧ ∀ (p : Nat), Nat.le p (List.length l) → (Decidable.decide ((↑p : Int) < (↑(List.length (List.map wrE l)) : Int)) = true → ((0 : Int) ≤ (↑p : Int) ∧ (↑p : Int) < (↑(List.length (List.map wrE l)) : Int)) ∧ Blk.read Proofs.Try.prog (Blk.mk false (39 : TypeId) (8 : Nat) true (List.map wrE l)) (39 : Nat) ((0 : Nat) + Int.toNat (↑p : Int)) (0 : Nat) = some (AV.agg [AV.int IntKind.i64 (at' l p).1, AV.bool (Wr.s (at' l p)).1, AV.w64 (Sl.e (Wr.s (at' l p))).1, AV.w64 (Sl.e (Wr.s (at' l p))).2, AV.w64 (Sl.e (Wr.s (at' l p))).3, AV.w64 (Sl.e (Wr.s (at' l p))).4, AV.int IntKind.i64 (Sl.e (Wr.s (at' l p))).5, AV.int IntKind.i64 (Sl.e (Wr.s (at' l p))).6]) ∧ ((p + (1 : Nat)) * (64 : Nat) ≤ (140737488355328 : Nat) ∧ p + (1 : Nat) ≤ (9223372036854775807 : Nat) ∧ (0 : Nat) + (1 : Nat) ≤ List.length [AV.agg [AV.int IntKind.i64 (at' l p).1, AV.bool (Wr.s (at' l p)).1, AV.w64 (Sl.e (Wr.s (at' l p))).1, AV.w64 (Sl.e (Wr.s (at' l p))).2, AV.w64 (Sl.e (Wr.s (at' l p))).3, AV.w64 (Sl.e (Wr.s (at' l p))).4, AV.int IntKind.i64 (Sl.e (Wr.s (at' l p))).5, AV.int IntKind.i64 (Sl.e (Wr.s (at' l p))).6]] ∧ p ≤ List.length (F (List.take p l))) ∧ List.take p (F (List.take p l)) ++ [AV.agg [AV.int IntKind.i64 (at' l p).1, AV.bool (Wr.s (at' l p)).1, AV.w64 (Sl.e (Wr.s (at' l p))).1, AV.w64 (Sl.e (Wr.s (at' l p))).2, AV.w64 (Sl.e (Wr.s (at' l p))).3, AV.w64 (Sl.e (Wr.s (at' l p))).4, AV.int IntKind.i64 (Sl.e (Wr.s (at' l p))).5, AV.int IntKind.i64 (Sl.e (Wr.s (at' l p))).6]] = F (List.take (p + (1 : Nat)) l) ∧ inRange IntKind.i64 ((↑p : Int) + (1 : Int)) ∧ ∃ (p' : Nat), St.mk [AV.any, AV.any, AV.any, AV.vsl ((0 : Nat) + (1 : Nat)) (0 : Nat) (p + (1 : Nat)), AV.any, AV.any, AV.vsl (0 : Nat) (0 : Nat) (List.length (List.map wrE l)), AV.int IntKind.i64 (↑(List.length (List.map wrE l)) : Int), AV.int IntKind.i64 ((↑p : Int) + (1 : Int)), AV.any, AV.any, AV.any, AV.any, AV.any, AV.any, AV.any, AV.any, AV.any, AV.any, AV.any, AV.any, AV.any, AV.any] [some (Blk.mk false (39 : TypeId) (8 : Nat) true (List.map wrE l)), some (Blk.mk true (52 : Nat) (8 : Nat) true (F (List.take (p + (1 : Nat)) l)))] = ws8St F l p' ∧ Nat.le p' (List.length l) ∧ List.length l + (1 : Nat) - p' < List.length l + (1 : Nat) - p) ∧ (Decidable.decide ((↑p : Int) < (↑(List.length (List.map wrE l)) : Int)) = false → p = List.length es ∧ some (Blk.mk true (52 : TypeId) (8 : Nat) true (F (List.take p l))) = some (Blk.mk true (52 : TypeId) (8 : Nat) true es))) := by kernel_rfl

theorem writes8Cs_ok : ∀ e ∈ writes8Cs, SpecOK Try.prog e.1 e.2 := by
  intro e he
  simp only [writes8Cs, List.mem_cons, List.not_mem_nil, or_false] at he
  rcases he with rfl
  · exact one8_ok

theorem writes8_ok : SpecOK Try.prog 14 (genSpec [pWr] writes8F) := by
  refine genSpec_ok (run_ok (l := writes8Cs) writes8Cs_ok mixed noNG) fun l R hF => ?_
  unfold writes8F at hF
  split at hF
  · rename_i r_l
    obtain ⟨hr_l, hl, hF⟩ := hF
    generalize deW r_l = l at hr_l hl hF
    subst hr_l
    refine ⟨_, hF, trivial, (ws8H (List.map wrE) l), ?_⟩
    show run writes8Cs Try.prog _ [.vsl 0 0 (l.map wrE).length] [some ⟨false, (pWr.getD (0, 0)).1, (pWr.getD (0, 0)).2, true, (l.map wrE)⟩] _ _
    rw [writes8_run]
    have lt : ∀ p, p ≤ l.length → ((l.take p).map wrE).length = p := fun p hp => by rw [List.length_map, List.length_take]; omega
    refine ⟨⟨rfl, Nat.zero_le _⟩, ?_⟩
    intro p (hp : p ≤ l.length)
    refine ⟨fun hlt => ?_, fun hge => ?_⟩
    · have hlt : p < l.length := by simp only [decide_eq_true_eq, List.length_map] at hlt; omega
      have B : 0 ≤ (p : Int) ∧ (p : Int) < ((l.map wrE).length : Int) := by rw [List.length_map]; omega
      refine ⟨B, read_rows B.1 B.2 (wr_whole _), ⟨by omega, by omega, by simp, by rw [lt p hp]; omega⟩, ?_, inR (by omega) (by omega), p + 1, rfl, hlt, by omega⟩
      rw [List.take_of_length_le (by rw [lt p hp]; omega), List.take_add_one, at_get hlt, List.map_append]
      rfl
    · have hp : p = l.length := by simp only [decide_eq_false_iff_not, List.length_map] at hge; omega
      subst hp
      rw [List.take_length, List.length_map]
      exact ⟨rfl, rfl⟩
  · exact hF.elim


def same8F : List Arg → (Res → Prop) → Prop
  | [.row r_l, .row r_m], R => r_l = (deS r_l).map slE ∧ (deS r_l).length ≤ 9223372036854775807 ∧ r_m = (deS r_m).map slE ∧ (deS r_m).length ≤ 9223372036854775807 ∧ R (.v (.bool (decide ((deS r_l) = (deS r_m)))))
  | _, _ => False

noncomputable def same8Cs : List (FuncId × Sx.Spec) := [(35, genSpec [none] one8F)]

theorem same8_run (l m : List Sl) (r : AV) : run same8Cs Try.prog 17 [.vsl 0 0 (l.map slE).length, .vsl 1 0 (m.map slE).length] [some ⟨false, (pSl.getD (0, 0)).1, (pSl.getD (0, 0)).2, true, (l.map slE)⟩, some ⟨false, (pRefS.getD (0, 0)).1, (pRefS.getD (0, 0)).2, true, (m.map slE)⟩] (sm8H l m) (yields (.v r)) =
    ((((↑(List.length (List.map slE l)) : Int) != (↑(List.length (List.map slE m)) : Int)) = true → AV.bool false = r) ∧ (((↑(List.length (List.map slE l)) : Int) != (↑(List.length (List.map slE m)) : Int)) = false → (St.mk [AV.vsl (0 : Nat) (0 : Nat) (List.length (List.map slE l)), AV.vsl ((0 : Nat) + (1 : Nat)) (0 : Nat) (List.length (List.map slE m)), AV.any, AV.any, AV.any, AV.any, AV.any, AV.any, AV.any, AV.any, AV.any, AV.any, AV.int IntKind.i64 (↑(List.length (List.map slE l)) : Int), AV.int IntKind.i64 (0 : Int), AV.any, AV.any, AV.any, AV.any, AV.any, AV.any, AV.any, AV.any, AV.any, AV.any, AV.any, AV.any, AV.any] [some (Blk.mk false (nat_lit 37) (7 : Nat) true (List.map slE l)), some (Blk.mk false (nat_lit 50) (7 : Nat) true (List.map slE m))] = sm8St l m (0 : Nat) ∧ sm8I l m (0 : Nat)) ∧ ∀ (p : Nat), sm8I l m p → (Decidable.decide ((↑p : Int) < (↑(List.length (List.map slE l)) : Int)) = true → ((0 : Int) ≤ (↑p : Int) ∧ (↑p : Int) < (↑(List.length (List.map slE l)) : Int)) ∧ Blk.read Proofs.Try.prog (Blk.mk false (37 : TypeId) (7 : Nat) true (List.map slE l)) (37 : Nat) ((0 : Nat) + Int.toNat (↑p : Int)) (0 : Nat) = some (AV.agg [AV.bool (at' l p).1, AV.w64 (Sl.e (at' l p)).1, AV.w64 (Sl.e (at' l p)).2, AV.w64 (Sl.e (at' l p)).3, AV.w64 (Sl.e (at' l p)).4, AV.int IntKind.i64 (Sl.e (at' l p)).5, AV.int IntKind.i64 (Sl.e (at' l p)).6]) ∧ ((0 : Int) ≤ (↑p : Int) ∧ (↑p : Int) < (↑(List.length (List.map slE m)) : Int)) ∧ Blk.read Proofs.Try.prog (Blk.mk false (50 : TypeId) (7 : Nat) true (List.map slE m)) (50 : Nat) ((0 : Nat) + Int.toNat (↑p : Int)) (0 : Nat) = some (AV.agg [AV.bool (at' m p).1, AV.w64 (Sl.e (at' m p)).1, AV.w64 (Sl.e (at' m p)).2, AV.w64 (Sl.e (at' m p)).3, AV.w64 (Sl.e (at' m p)).4, AV.int IntKind.i64 (Sl.e (at' m p)).5, AV.int IntKind.i64 (Sl.e (at' m p)).6]) ∧ ((!((at' l p).1 == (at' m p).1 && ((Sl.e (at' l p)).1 == (Sl.e (at' m p)).1 && (Sl.e (at' l p)).2 == (Sl.e (at' m p)).2 && ((Sl.e (at' l p)).3 == (Sl.e (at' m p)).3 && (Sl.e (at' l p)).4 == (Sl.e (at' m p)).4) && ((Sl.e (at' l p)).5 == (Sl.e (at' m p)).5 && (Sl.e (at' l p)).6 == (Sl.e (at' m p)).6)))) = true → AV.bool false = r) ∧ ((!((at' l p).1 == (at' m p).1 && ((Sl.e (at' l p)).1 == (Sl.e (at' m p)).1 && (Sl.e (at' l p)).2 == (Sl.e (at' m p)).2 && ((Sl.e (at' l p)).3 == (Sl.e (at' m p)).3 && (Sl.e (at' l p)).4 == (Sl.e (at' m p)).4) && ((Sl.e (at' l p)).5 == (Sl.e (at' m p)).5 && (Sl.e (at' l p)).6 == (Sl.e (at' m p)).6)))) = false → inRange IntKind.i64 ((↑p : Int) + (1 : Int)) ∧ ∃ (p' : Nat), St.mk [AV.vsl (0 : Nat) (0 : Nat) (List.length (List.map slE l)), AV.vsl ((0 : Nat) + (1 : Nat)) (0 : Nat) (List.length (List.map slE m)), AV.any, AV.any, AV.any, AV.any, AV.any, AV.any, AV.any, AV.any, AV.any, AV.any, AV.int IntKind.i64 (↑(List.length (List.map slE l)) : Int), AV.int IntKind.i64 ((↑p : Int) + (1 : Int)), AV.any, AV.any, AV.any, AV.any, AV.any, AV.any, AV.any, AV.any, AV.any, AV.any, AV.any, AV.any, AV.any] [some (Blk.mk false (37 : TypeId) (7 : Nat) true (List.map slE l)), some (Blk.mk false (50 : TypeId) (7 : Nat) true (List.map slE m))] = sm8St l m p' ∧ sm8I l m p' ∧ List.length l + (1 : Nat) - p' < List.length l + (1 : Nat) - p)) ∧ (Decidable.decide ((↑p : Int) < (↑(List.length (List.map slE l)) : Int)) = false → AV.bool true = r))) := by kernel_rfl

theorem same8Cs_ok : ∀ e ∈ same8Cs, SpecOK Try.prog e.1 e.2 := by
  intro e he
  simp only [same8Cs, List.mem_cons, List.not_mem_nil, or_false] at he
  rcases he with rfl
  · exact one8_ok

theorem same8_ok : SpecOK Try.prog 17 (genSpec [pSl, pRefS] same8F) := by
  refine genSpec_ok (run_ok (l := same8Cs) same8Cs_ok mixed noNG) fun l R hF => ?_
  unfold same8F at hF
  split at hF
  · rename_i r_l r_m
    obtain ⟨hr_l, hl, hF⟩ := hF
    generalize deS r_l = l at hr_l hl hF
    subst hr_l
    obtain ⟨hr_m, hm, hF⟩ := hF
    generalize deS r_m = m at hr_m hm hF
    subst hr_m
    refine ⟨_, hF, rfl, (sm8H l m), ?_⟩
    show run same8Cs Try.prog _ [.vsl 0 0 (l.map slE).length, .vsl 1 0 (m.map slE).length] [some ⟨false, (pSl.getD (0, 0)).1, (pSl.getD (0, 0)).2, true, (l.map slE)⟩, some ⟨false, (pRefS.getD (0, 0)).1, (pRefS.getD (0, 0)).2, true, (m.map slE)⟩] _ _
    rw [same8_run]
    simp only [eq_Sl]
    refine ⟨fun h => ?_, fun h => ⟨⟨rfl, Nat.zero_le _, fun j hj => by omega⟩, ?_⟩⟩
    · have h : l.length ≠ m.length := by simp at h; omega
      rw [decide_eq_false fun e => h (by rw [e])]
    · have h : l.length = m.length := by simp at h; omega
      rintro p ⟨h1, h2⟩
      refine ⟨fun hlt => ?_, fun hge => ?_⟩
      · have hp : p < l.length := by simp only [decide_eq_true_eq, List.length_map] at hlt; omega
        have B : 0 ≤ (p : Int) ∧ (p : Int) < ((l.map slE).length : Int) := by rw [List.length_map]; omega
        have B2 : 0 ≤ (p : Int) ∧ (p : Int) < ((m.map slE).length : Int) := by rw [List.length_map]; omega
        refine ⟨B, read_rows B.1 B.2 (sl_whole _), B2, read_rows B2.1 B2.2 (rsl_whole _), fun hne => ?_, fun he => ⟨inR (by omega) (by omega), p + 1, rfl, ⟨by omega, up h2 ?_⟩, by omega⟩⟩
        · have hne : at' l p ≠ at' m p := by simpa using hne
          rw [decide_eq_false fun e => hne (by rw [e])]
        · simpa using he
      · have hp : p = l.length := by simp only [decide_eq_false_iff_not, List.length_map] at hge; omega
        subst hp
        rw [decide_eq_true (ext_at h h2)]
  · exact hF.elim


end Go.Proofs.Yteagcgocmdjobaa.L1
end

section
/-
  Layer 8: what the contracts of a bank's calls say.
-/
namespace Go.Proofs.Yteagcgocmdjobaa.L1
open Go.Sx Go.Sx.M

/-- A bank: how many were written, its slots. -/
def bkT : TypeId := 84

def gnew8F : List Arg → (Res → Prop) → Prop
  | [.v (.int .i64 n)], R => ((1 ≤ n ∧ n ≤ 256) → R (.many [.obj bkT (.int .i64 0 :: (nwS n).map slE), .v (.int .i64 0)])) ∧ (¬ (1 ≤ n ∧ n ≤ 256) → R (.v (.tuple [.val (.pointer none), .int .i64 1])))
  | _, _ => False

def gdo8F : List AV → List Arg → (List AV → AV → Prop) → Prop
  | .int .i64 c :: r_l, [.v (.agg [.int .i64 p, .bool o, .w64 v, .w64 w, .w64 m, .w64 n, .int .i64 k, .int .i64 j])], R => r_l = (deS r_l).map slE ∧ (deS r_l).length ≤ 256 ∧ 0 ≤ c ∧ c ≤ 1000000 ∧
      R (.int .i64 (cnS c ⟨p, ⟨o, ⟨v, w, m, n, k, j⟩⟩⟩ (deS r_l).length) :: (apS (deS r_l) ⟨p, ⟨o, ⟨v, w, m, n, k, j⟩⟩⟩).map slE) (.int .i64 (erS ⟨p, ⟨o, ⟨v, w, m, n, k, j⟩⟩⟩ (deS r_l).length))
  | _, _, _ => False

def gread8F : List AV → List Arg → (Res → Prop) → Prop
  | .int .i64 _ :: r_l, [.v (.int .i64 k)], R => r_l = (deS r_l).map slE ∧ (deS r_l).length ≤ 256 ∧ R (.v (.tuple [.agg [.bool (rdS (deS r_l) k).ok, .w64 (rdS (deS r_l) k).e.v, .w64 (rdS (deS r_l) k).e.w, .w64 (rdS (deS r_l) k).e.m, .w64 (rdS (deS r_l) k).e.n, .int .i64 (rdS (deS r_l) k).e.len, .int .i64 (rdS (deS r_l) k).e.act], .int .i64 (reS (deS r_l) k)]))
  | _, _, _ => False

def gsearch8F : List AV → List Arg → (Res → Prop) → Prop
  | .int .i64 _ :: r_l, [.v (.agg [.w64 a, .w64 b])], R => r_l = (deS r_l).map slE ∧ (deS r_l).length ≤ 256 ∧ R (.v (.tuple [.int .i64 (mx0 (fnS (deS r_l) a b)), .bool (decide (fnS (deS r_l) a b ≥ 0))]))
  | _, _, _ => False

def gslots8F : List AV → List Arg → (Res → Prop) → Prop
  | .int .i64 _ :: r_l, [], R => r_l = (deS r_l).map slE ∧ (deS r_l).length ≤ 256 ∧ R (.vrow 37 7 ((deS r_l).map slE))
  | _, _, _ => False

def gwrites8F : List AV → List Arg → (Res → Prop) → Prop
  | .int .i64 c :: _, [], R => R (.v (.int .i64 c))
  | _, _, _ => False

def gcopy8F : List AV → List Arg → (Res → Prop) → Prop
  | .int .i64 c :: r_l, [], R => r_l = (deS r_l).map slE ∧ (deS r_l).length ≤ 256 ∧ R (.obj bkT (.int .i64 c :: (deS r_l).map slE) [])
  | _, _, _ => False

def gmay8F : List Arg → (Res → Prop) → Prop
  | [.v (.agg [.int .i64 p, .bool o, .w64 v, .w64 w, .w64 m, .w64 n, .int .i64 k, .int .i64 j]), .v (.int .i64 z)], R => R (.v (.bool (mayS ⟨p, ⟨o, ⟨v, w, m, n, k, j⟩⟩⟩ z)))
  | _, _ => False

def gapply8F : List Arg → (Res → Prop) → Prop
  | [.row r_l, .row r_w], R => r_l = (deS r_l).map slE ∧ (deS r_l).length ≤ 1000000 ∧ r_w = (deW r_w).map wrE ∧ (deW r_w).length ≤ 1000000 ∧ R (.vrow 37 7 ((apL (deS r_l) (deW r_w)).map slE))
  | _, _ => False

def gentries8F : List Arg → (Res → Prop) → Prop
  | [.row r_l], R => r_l = (deS r_l).map slE ∧ (deS r_l).length ≤ 1000000 ∧ R (.vrow 35 6 ((ensS (deS r_l)).map enE))
  | _, _ => False

def gtell8F : List Arg → (Res → Prop) → Prop
  | [.row r_l, .v (.agg [.w64 a, .w64 b])], R => r_l = (deS r_l).map slE ∧ (deS r_l).length ≤ 9223372036854775807 ∧ R (.v (.int .i64 (tlS (deS r_l) a b)))
  | _, _ => False

def gfree8F : List Arg → (Res → Prop) → Prop
  | [.row r_l], R => r_l = (deS r_l).map slE ∧ (deS r_l).length ≤ 9223372036854775807 ∧ R (.v (.int .i64 (frS (deS r_l))))
  | _, _ => False

noncomputable def b8Cs : List (FuncId × Sx.Spec) := [(10, genSpec [none] gnew8F), (13, mutSpec bkT [none] gdo8F), (20, readSpec bkT [none] gread8F), (21, readSpec bkT [none] gsearch8F),
  (18, readSpec bkT [] gslots8F), (16, readSpec bkT [] gwrites8F), (12, readSpec bkT [] gcopy8F),
  (27, genSpec [none, none] gmay8F), (28, genSpec [pSl, pWr] gapply8F), (24, genSpec [pSl] gentries8F), (29, genSpec [pSl, none] gtell8F), (31, genSpec [pSl] gfree8F)]

noncomputable def awake8Cs : List (FuncId × Sx.Spec) := (36, genSpec [none, none] eofF) :: b8Cs

def aw8H : List Hint := [.br false, .br false, .wrc [13], .br true, .br true, .br true, .br true, .br true]

theorem awake8_run (_u : Unit) : run awake8Cs Try.prog 11 [] [] aw8H (comesTo (.bool true)) =
    (((1 : Int) ≤ (2 : Int) ∧ (2 : Int) ≤ (256 : Int) → ((0 : Int) != (0 : Int)) = false ∧ false = false ∧ ([AV.agg [AV.bool false, AV.w64 (BitVec.ofNat (64 : Nat) (0 : Nat)), AV.w64 (BitVec.ofNat (64 : Nat) (0 : Nat)), AV.w64 (BitVec.ofNat (64 : Nat) (0 : Nat)), AV.w64 (BitVec.ofNat (64 : Nat) (0 : Nat)), AV.int IntKind.i64 (0 : Int), AV.int IntKind.i64 (0 : Int)], AV.agg [AV.bool false, AV.w64 (BitVec.ofNat (64 : Nat) (0 : Nat)), AV.w64 (BitVec.ofNat (64 : Nat) (0 : Nat)), AV.w64 (BitVec.ofNat (64 : Nat) (0 : Nat)), AV.w64 (BitVec.ofNat (64 : Nat) (0 : Nat)), AV.int IntKind.i64 (0 : Int), AV.int IntKind.i64 (0 : Int)]] = [AV.agg [AV.bool false, AV.w64 (BitVec.ofNat (64 : Nat) (0 : Nat)), AV.w64 (BitVec.ofNat (64 : Nat) (0 : Nat)), AV.w64 (BitVec.ofNat (64 : Nat) (0 : Nat)), AV.w64 (BitVec.ofNat (64 : Nat) (0 : Nat)), AV.int IntKind.i64 (0 : Int), AV.int IntKind.i64 (0 : Int)], AV.agg [AV.bool false, AV.w64 (BitVec.ofNat (64 : Nat) (0 : Nat)), AV.w64 (BitVec.ofNat (64 : Nat) (0 : Nat)), AV.w64 (BitVec.ofNat (64 : Nat) (0 : Nat)), AV.w64 (BitVec.ofNat (64 : Nat) (0 : Nat)), AV.int IntKind.i64 (0 : Int), AV.int IntKind.i64 (0 : Int)]] ∧ List.length (deS [AV.agg [AV.bool false, AV.w64 (BitVec.ofNat (64 : Nat) (0 : Nat)), AV.w64 (BitVec.ofNat (64 : Nat) (0 : Nat)), AV.w64 (BitVec.ofNat (64 : Nat) (0 : Nat)), AV.w64 (BitVec.ofNat (64 : Nat) (0 : Nat)), AV.int IntKind.i64 (0 : Int), AV.int IntKind.i64 (0 : Int)], AV.agg [AV.bool false, AV.w64 (BitVec.ofNat (64 : Nat) (0 : Nat)), AV.w64 (BitVec.ofNat (64 : Nat) (0 : Nat)), AV.w64 (BitVec.ofNat (64 : Nat) (0 : Nat)), AV.w64 (BitVec.ofNat (64 : Nat) (0 : Nat)), AV.int IntKind.i64 (0 : Int), AV.int IntKind.i64 (0 : Int)]]) ≤ (256 : Nat) ∧ (0 : Int) ≤ (0 : Int) ∧ (0 : Int) ≤ (1000000 : Int) ∧ [AV.agg [AV.bool true, AV.w64 (BitVec.ofInt (64 : Nat) (0 : Int) &&& mkW (0 : Int)), AV.w64 (BitVec.ofInt (64 : Nat) (0 : Int) &&& mkW ((0 : Int) - (64 : Int))), AV.w64 (mkW (0 : Int)), AV.w64 (mkW ((0 : Int) - (64 : Int))), AV.int IntKind.i64 (clamp (0 : Int)), AV.int IntKind.i64 (3 : Int)], AV.agg [AV.bool false, AV.w64 (BitVec.ofNat (64 : Nat) (0 : Nat)), AV.w64 (BitVec.ofNat (64 : Nat) (0 : Nat)), AV.w64 (BitVec.ofNat (64 : Nat) (0 : Nat)), AV.w64 (BitVec.ofNat (64 : Nat) (0 : Nat)), AV.int IntKind.i64 (0 : Int), AV.int IntKind.i64 (0 : Int)]] = [AV.agg [AV.bool true, AV.w64 (BitVec.ofInt (64 : Nat) (0 : Int) &&& mkW (0 : Int)), AV.w64 (BitVec.ofInt (64 : Nat) (0 : Int) &&& mkW ((0 : Int) - (64 : Int))), AV.w64 (mkW (0 : Int)), AV.w64 (mkW ((0 : Int) - (64 : Int))), AV.int IntKind.i64 (clamp (0 : Int)), AV.int IntKind.i64 (3 : Int)], AV.agg [AV.bool false, AV.w64 (BitVec.ofNat (64 : Nat) (0 : Nat)), AV.w64 (BitVec.ofNat (64 : Nat) (0 : Nat)), AV.w64 (BitVec.ofNat (64 : Nat) (0 : Nat)), AV.w64 (BitVec.ofNat (64 : Nat) (0 : Nat)), AV.int IntKind.i64 (0 : Int), AV.int IntKind.i64 (0 : Int)]] ∧ List.length (deS [AV.agg [AV.bool true, AV.w64 (BitVec.ofInt (64 : Nat) (0 : Int) &&& mkW (0 : Int)), AV.w64 (BitVec.ofInt (64 : Nat) (0 : Int) &&& mkW ((0 : Int) - (64 : Int))), AV.w64 (mkW (0 : Int)), AV.w64 (mkW ((0 : Int) - (64 : Int))), AV.int IntKind.i64 (clamp (0 : Int)), AV.int IntKind.i64 (3 : Int)], AV.agg [AV.bool false, AV.w64 (BitVec.ofNat (64 : Nat) (0 : Nat)), AV.w64 (BitVec.ofNat (64 : Nat) (0 : Nat)), AV.w64 (BitVec.ofNat (64 : Nat) (0 : Nat)), AV.w64 (BitVec.ofNat (64 : Nat) (0 : Nat)), AV.int IntKind.i64 (0 : Int), AV.int IntKind.i64 (0 : Int)]]) ≤ (256 : Nat) ∧ (0 : Int) ≤ cnS (0 : Int) (Wr.mk (0 : Int) (Sl.mk true (En.mk (BitVec.ofInt (64 : Nat) (0 : Int) &&& mkW (0 : Int)) (BitVec.ofInt (64 : Nat) (0 : Int) &&& mkW ((0 : Int) - (64 : Int))) (mkW (0 : Int)) (mkW ((0 : Int) - (64 : Int))) (clamp (0 : Int)) (3 : Int)))) (↑(List.length (deS [AV.agg [AV.bool false, AV.w64 (BitVec.ofNat (64 : Nat) (0 : Nat)), AV.w64 (BitVec.ofNat (64 : Nat) (0 : Nat)), AV.w64 (BitVec.ofNat (64 : Nat) (0 : Nat)), AV.w64 (BitVec.ofNat (64 : Nat) (0 : Nat)), AV.int IntKind.i64 (0 : Int), AV.int IntKind.i64 (0 : Int)], AV.agg [AV.bool false, AV.w64 (BitVec.ofNat (64 : Nat) (0 : Nat)), AV.w64 (BitVec.ofNat (64 : Nat) (0 : Nat)), AV.w64 (BitVec.ofNat (64 : Nat) (0 : Nat)), AV.w64 (BitVec.ofNat (64 : Nat) (0 : Nat)), AV.int IntKind.i64 (0 : Int), AV.int IntKind.i64 (0 : Int)]])) : Int) ∧ cnS (0 : Int) (Wr.mk (0 : Int) (Sl.mk true (En.mk (BitVec.ofInt (64 : Nat) (0 : Int) &&& mkW (0 : Int)) (BitVec.ofInt (64 : Nat) (0 : Int) &&& mkW ((0 : Int) - (64 : Int))) (mkW (0 : Int)) (mkW ((0 : Int) - (64 : Int))) (clamp (0 : Int)) (3 : Int)))) (↑(List.length (deS [AV.agg [AV.bool false, AV.w64 (BitVec.ofNat (64 : Nat) (0 : Nat)), AV.w64 (BitVec.ofNat (64 : Nat) (0 : Nat)), AV.w64 (BitVec.ofNat (64 : Nat) (0 : Nat)), AV.w64 (BitVec.ofNat (64 : Nat) (0 : Nat)), AV.int IntKind.i64 (0 : Int), AV.int IntKind.i64 (0 : Int)], AV.agg [AV.bool false, AV.w64 (BitVec.ofNat (64 : Nat) (0 : Nat)), AV.w64 (BitVec.ofNat (64 : Nat) (0 : Nat)), AV.w64 (BitVec.ofNat (64 : Nat) (0 : Nat)), AV.w64 (BitVec.ofNat (64 : Nat) (0 : Nat)), AV.int IntKind.i64 (0 : Int), AV.int IntKind.i64 (0 : Int)]])) : Int) ≤ (1000000 : Int) ∧ [AV.agg [AV.bool true, AV.w64 (BitVec.ofInt (64 : Nat) (0 : Int) &&& mkW (0 : Int)), AV.w64 (BitVec.ofInt (64 : Nat) (0 : Int) &&& mkW ((0 : Int) - (64 : Int))), AV.w64 (mkW (0 : Int)), AV.w64 (mkW ((0 : Int) - (64 : Int))), AV.int IntKind.i64 (clamp (0 : Int)), AV.int IntKind.i64 (3 : Int)], AV.agg [AV.bool true, AV.w64 (BitVec.ofInt (64 : Nat) (0 : Int) &&& mkW (0 : Int)), AV.w64 (BitVec.ofInt (64 : Nat) (0 : Int) &&& mkW ((0 : Int) - (64 : Int))), AV.w64 (mkW (0 : Int)), AV.w64 (mkW ((0 : Int) - (64 : Int))), AV.int IntKind.i64 (clamp (0 : Int)), AV.int IntKind.i64 (3 : Int)]] = [AV.agg [AV.bool true, AV.w64 (BitVec.ofInt (64 : Nat) (0 : Int) &&& mkW (0 : Int)), AV.w64 (BitVec.ofInt (64 : Nat) (0 : Int) &&& mkW ((0 : Int) - (64 : Int))), AV.w64 (mkW (0 : Int)), AV.w64 (mkW ((0 : Int) - (64 : Int))), AV.int IntKind.i64 (clamp (0 : Int)), AV.int IntKind.i64 (3 : Int)], AV.agg [AV.bool true, AV.w64 (BitVec.ofInt (64 : Nat) (0 : Int) &&& mkW (0 : Int)), AV.w64 (BitVec.ofInt (64 : Nat) (0 : Int) &&& mkW ((0 : Int) - (64 : Int))), AV.w64 (mkW (0 : Int)), AV.w64 (mkW ((0 : Int) - (64 : Int))), AV.int IntKind.i64 (clamp (0 : Int)), AV.int IntKind.i64 (3 : Int)]] ∧ List.length (deS [AV.agg [AV.bool true, AV.w64 (BitVec.ofInt (64 : Nat) (0 : Int) &&& mkW (0 : Int)), AV.w64 (BitVec.ofInt (64 : Nat) (0 : Int) &&& mkW ((0 : Int) - (64 : Int))), AV.w64 (mkW (0 : Int)), AV.w64 (mkW ((0 : Int) - (64 : Int))), AV.int IntKind.i64 (clamp (0 : Int)), AV.int IntKind.i64 (3 : Int)], AV.agg [AV.bool true, AV.w64 (BitVec.ofInt (64 : Nat) (0 : Int) &&& mkW (0 : Int)), AV.w64 (BitVec.ofInt (64 : Nat) (0 : Int) &&& mkW ((0 : Int) - (64 : Int))), AV.w64 (mkW (0 : Int)), AV.w64 (mkW ((0 : Int) - (64 : Int))), AV.int IntKind.i64 (clamp (0 : Int)), AV.int IntKind.i64 (3 : Int)]]) ≤ (256 : Nat) ∧ (erS (Wr.mk (0 : Int) (Sl.mk true (En.mk (BitVec.ofInt (64 : Nat) (0 : Int) &&& mkW (0 : Int)) (BitVec.ofInt (64 : Nat) (0 : Int) &&& mkW ((0 : Int) - (64 : Int))) (mkW (0 : Int)) (mkW ((0 : Int) - (64 : Int))) (clamp (0 : Int)) (3 : Int)))) (↑(List.length (deS [AV.agg [AV.bool false, AV.w64 (BitVec.ofNat (64 : Nat) (0 : Nat)), AV.w64 (BitVec.ofNat (64 : Nat) (0 : Nat)), AV.w64 (BitVec.ofNat (64 : Nat) (0 : Nat)), AV.w64 (BitVec.ofNat (64 : Nat) (0 : Nat)), AV.int IntKind.i64 (0 : Int), AV.int IntKind.i64 (0 : Int)], AV.agg [AV.bool false, AV.w64 (BitVec.ofNat (64 : Nat) (0 : Nat)), AV.w64 (BitVec.ofNat (64 : Nat) (0 : Nat)), AV.w64 (BitVec.ofNat (64 : Nat) (0 : Nat)), AV.w64 (BitVec.ofNat (64 : Nat) (0 : Nat)), AV.int IntKind.i64 (0 : Int), AV.int IntKind.i64 (0 : Int)]])) : Int) == (0 : Int)) = true ∧ (erS (Wr.mk (1 : Int) (Sl.mk true (En.mk (BitVec.ofInt (64 : Nat) (0 : Int) &&& mkW (0 : Int)) (BitVec.ofInt (64 : Nat) (0 : Int) &&& mkW ((0 : Int) - (64 : Int))) (mkW (0 : Int)) (mkW ((0 : Int) - (64 : Int))) (clamp (0 : Int)) (3 : Int)))) (↑(List.length (deS [AV.agg [AV.bool true, AV.w64 (BitVec.ofInt (64 : Nat) (0 : Int) &&& mkW (0 : Int)), AV.w64 (BitVec.ofInt (64 : Nat) (0 : Int) &&& mkW ((0 : Int) - (64 : Int))), AV.w64 (mkW (0 : Int)), AV.w64 (mkW ((0 : Int) - (64 : Int))), AV.int IntKind.i64 (clamp (0 : Int)), AV.int IntKind.i64 (3 : Int)], AV.agg [AV.bool false, AV.w64 (BitVec.ofNat (64 : Nat) (0 : Nat)), AV.w64 (BitVec.ofNat (64 : Nat) (0 : Nat)), AV.w64 (BitVec.ofNat (64 : Nat) (0 : Nat)), AV.w64 (BitVec.ofNat (64 : Nat) (0 : Nat)), AV.int IntKind.i64 (0 : Int), AV.int IntKind.i64 (0 : Int)]])) : Int) == (0 : Int)) = true ∧ Decidable.decide (fnS (deS [AV.agg [AV.bool true, AV.w64 (BitVec.ofInt (64 : Nat) (0 : Int) &&& mkW (0 : Int)), AV.w64 (BitVec.ofInt (64 : Nat) (0 : Int) &&& mkW ((0 : Int) - (64 : Int))), AV.w64 (mkW (0 : Int)), AV.w64 (mkW ((0 : Int) - (64 : Int))), AV.int IntKind.i64 (clamp (0 : Int)), AV.int IntKind.i64 (3 : Int)], AV.agg [AV.bool true, AV.w64 (BitVec.ofInt (64 : Nat) (0 : Int) &&& mkW (0 : Int)), AV.w64 (BitVec.ofInt (64 : Nat) (0 : Int) &&& mkW ((0 : Int) - (64 : Int))), AV.w64 (mkW (0 : Int)), AV.w64 (mkW ((0 : Int) - (64 : Int))), AV.int IntKind.i64 (clamp (0 : Int)), AV.int IntKind.i64 (3 : Int)]]) (BitVec.ofInt (64 : Nat) (5 : Int)) (BitVec.ofInt (64 : Nat) (0 : Int)) ≥ (0 : Int)) = true ∧ (mx0 (fnS (deS [AV.agg [AV.bool true, AV.w64 (BitVec.ofInt (64 : Nat) (0 : Int) &&& mkW (0 : Int)), AV.w64 (BitVec.ofInt (64 : Nat) (0 : Int) &&& mkW ((0 : Int) - (64 : Int))), AV.w64 (mkW (0 : Int)), AV.w64 (mkW ((0 : Int) - (64 : Int))), AV.int IntKind.i64 (clamp (0 : Int)), AV.int IntKind.i64 (3 : Int)], AV.agg [AV.bool true, AV.w64 (BitVec.ofInt (64 : Nat) (0 : Int) &&& mkW (0 : Int)), AV.w64 (BitVec.ofInt (64 : Nat) (0 : Int) &&& mkW ((0 : Int) - (64 : Int))), AV.w64 (mkW (0 : Int)), AV.w64 (mkW ((0 : Int) - (64 : Int))), AV.int IntKind.i64 (clamp (0 : Int)), AV.int IntKind.i64 (3 : Int)]]) (BitVec.ofInt (64 : Nat) (5 : Int)) (BitVec.ofInt (64 : Nat) (0 : Int))) == (0 : Int)) = true ∧ (cnS (cnS (0 : Int) (Wr.mk (0 : Int) (Sl.mk true (En.mk (BitVec.ofInt (64 : Nat) (0 : Int) &&& mkW (0 : Int)) (BitVec.ofInt (64 : Nat) (0 : Int) &&& mkW ((0 : Int) - (64 : Int))) (mkW (0 : Int)) (mkW ((0 : Int) - (64 : Int))) (clamp (0 : Int)) (3 : Int)))) (↑(List.length (deS [AV.agg [AV.bool false, AV.w64 (BitVec.ofNat (64 : Nat) (0 : Nat)), AV.w64 (BitVec.ofNat (64 : Nat) (0 : Nat)), AV.w64 (BitVec.ofNat (64 : Nat) (0 : Nat)), AV.w64 (BitVec.ofNat (64 : Nat) (0 : Nat)), AV.int IntKind.i64 (0 : Int), AV.int IntKind.i64 (0 : Int)], AV.agg [AV.bool false, AV.w64 (BitVec.ofNat (64 : Nat) (0 : Nat)), AV.w64 (BitVec.ofNat (64 : Nat) (0 : Nat)), AV.w64 (BitVec.ofNat (64 : Nat) (0 : Nat)), AV.w64 (BitVec.ofNat (64 : Nat) (0 : Nat)), AV.int IntKind.i64 (0 : Int), AV.int IntKind.i64 (0 : Int)]])) : Int)) (Wr.mk (1 : Int) (Sl.mk true (En.mk (BitVec.ofInt (64 : Nat) (0 : Int) &&& mkW (0 : Int)) (BitVec.ofInt (64 : Nat) (0 : Int) &&& mkW ((0 : Int) - (64 : Int))) (mkW (0 : Int)) (mkW ((0 : Int) - (64 : Int))) (clamp (0 : Int)) (3 : Int)))) (↑(List.length (deS [AV.agg [AV.bool true, AV.w64 (BitVec.ofInt (64 : Nat) (0 : Int) &&& mkW (0 : Int)), AV.w64 (BitVec.ofInt (64 : Nat) (0 : Int) &&& mkW ((0 : Int) - (64 : Int))), AV.w64 (mkW (0 : Int)), AV.w64 (mkW ((0 : Int) - (64 : Int))), AV.int IntKind.i64 (clamp (0 : Int)), AV.int IntKind.i64 (3 : Int)], AV.agg [AV.bool false, AV.w64 (BitVec.ofNat (64 : Nat) (0 : Nat)), AV.w64 (BitVec.ofNat (64 : Nat) (0 : Nat)), AV.w64 (BitVec.ofNat (64 : Nat) (0 : Nat)), AV.w64 (BitVec.ofNat (64 : Nat) (0 : Nat)), AV.int IntKind.i64 (0 : Int), AV.int IntKind.i64 (0 : Int)]])) : Int) == (2 : Int)) = true ∧ [AV.agg [AV.bool true, AV.w64 (BitVec.ofInt (64 : Nat) (0 : Int) &&& mkW (0 : Int)), AV.w64 (BitVec.ofInt (64 : Nat) (0 : Int) &&& mkW ((0 : Int) - (64 : Int))), AV.w64 (mkW (0 : Int)), AV.w64 (mkW ((0 : Int) - (64 : Int))), AV.int IntKind.i64 (clamp (0 : Int)), AV.int IntKind.i64 (3 : Int)], AV.agg [AV.bool true, AV.w64 (BitVec.ofInt (64 : Nat) (0 : Int) &&& mkW (0 : Int)), AV.w64 (BitVec.ofInt (64 : Nat) (0 : Int) &&& mkW ((0 : Int) - (64 : Int))), AV.w64 (mkW (0 : Int)), AV.w64 (mkW ((0 : Int) - (64 : Int))), AV.int IntKind.i64 (clamp (0 : Int)), AV.int IntKind.i64 (3 : Int)]] = [AV.agg [AV.bool true, AV.w64 (BitVec.ofInt (64 : Nat) (0 : Int) &&& mkW (0 : Int)), AV.w64 (BitVec.ofInt (64 : Nat) (0 : Int) &&& mkW ((0 : Int) - (64 : Int))), AV.w64 (mkW (0 : Int)), AV.w64 (mkW ((0 : Int) - (64 : Int))), AV.int IntKind.i64 (clamp (0 : Int)), AV.int IntKind.i64 (3 : Int)], AV.agg [AV.bool true, AV.w64 (BitVec.ofInt (64 : Nat) (0 : Int) &&& mkW (0 : Int)), AV.w64 (BitVec.ofInt (64 : Nat) (0 : Int) &&& mkW ((0 : Int) - (64 : Int))), AV.w64 (mkW (0 : Int)), AV.w64 (mkW ((0 : Int) - (64 : Int))), AV.int IntKind.i64 (clamp (0 : Int)), AV.int IntKind.i64 (3 : Int)]] ∧ List.length (deS [AV.agg [AV.bool true, AV.w64 (BitVec.ofInt (64 : Nat) (0 : Int) &&& mkW (0 : Int)), AV.w64 (BitVec.ofInt (64 : Nat) (0 : Int) &&& mkW ((0 : Int) - (64 : Int))), AV.w64 (mkW (0 : Int)), AV.w64 (mkW ((0 : Int) - (64 : Int))), AV.int IntKind.i64 (clamp (0 : Int)), AV.int IntKind.i64 (3 : Int)], AV.agg [AV.bool true, AV.w64 (BitVec.ofInt (64 : Nat) (0 : Int) &&& mkW (0 : Int)), AV.w64 (BitVec.ofInt (64 : Nat) (0 : Int) &&& mkW ((0 : Int) - (64 : Int))), AV.w64 (mkW (0 : Int)), AV.w64 (mkW ((0 : Int) - (64 : Int))), AV.int IntKind.i64 (clamp (0 : Int)), AV.int IntKind.i64 (3 : Int)]]) ≤ (256 : Nat) ∧ (0 : Nat) + List.length [AV.agg [AV.bool true, AV.w64 (BitVec.ofInt (64 : Nat) (0 : Int) &&& mkW (0 : Int)), AV.w64 (BitVec.ofInt (64 : Nat) (0 : Int) &&& mkW ((0 : Int) - (64 : Int))), AV.w64 (mkW (0 : Int)), AV.w64 (mkW ((0 : Int) - (64 : Int))), AV.int IntKind.i64 (clamp (0 : Int)), AV.int IntKind.i64 (3 : Int)], AV.agg [AV.bool true, AV.w64 (BitVec.ofInt (64 : Nat) (0 : Int) &&& mkW (0 : Int)), AV.w64 (BitVec.ofInt (64 : Nat) (0 : Int) &&& mkW ((0 : Int) - (64 : Int))), AV.w64 (mkW (0 : Int)), AV.w64 (mkW ((0 : Int) - (64 : Int))), AV.int IntKind.i64 (clamp (0 : Int)), AV.int IntKind.i64 (3 : Int)]] ≤ List.length [AV.agg [AV.bool true, AV.w64 (BitVec.ofInt (64 : Nat) (0 : Int) &&& mkW (0 : Int)), AV.w64 (BitVec.ofInt (64 : Nat) (0 : Int) &&& mkW ((0 : Int) - (64 : Int))), AV.w64 (mkW (0 : Int)), AV.w64 (mkW ((0 : Int) - (64 : Int))), AV.int IntKind.i64 (clamp (0 : Int)), AV.int IntKind.i64 (3 : Int)], AV.agg [AV.bool true, AV.w64 (BitVec.ofInt (64 : Nat) (0 : Int) &&& mkW (0 : Int)), AV.w64 (BitVec.ofInt (64 : Nat) (0 : Int) &&& mkW ((0 : Int) - (64 : Int))), AV.w64 (mkW (0 : Int)), AV.w64 (mkW ((0 : Int) - (64 : Int))), AV.int IntKind.i64 (clamp (0 : Int)), AV.int IntKind.i64 (3 : Int)]] ∧ [AV.agg [AV.bool true, AV.w64 (BitVec.ofInt (64 : Nat) (0 : Int) &&& mkW (0 : Int)), AV.w64 (BitVec.ofInt (64 : Nat) (0 : Int) &&& mkW ((0 : Int) - (64 : Int))), AV.w64 (mkW (0 : Int)), AV.w64 (mkW ((0 : Int) - (64 : Int))), AV.int IntKind.i64 (clamp (0 : Int)), AV.int IntKind.i64 (3 : Int)], AV.agg [AV.bool true, AV.w64 (BitVec.ofInt (64 : Nat) (0 : Int) &&& mkW (0 : Int)), AV.w64 (BitVec.ofInt (64 : Nat) (0 : Int) &&& mkW ((0 : Int) - (64 : Int))), AV.w64 (mkW (0 : Int)), AV.w64 (mkW ((0 : Int) - (64 : Int))), AV.int IntKind.i64 (clamp (0 : Int)), AV.int IntKind.i64 (3 : Int)]] = [AV.agg [AV.bool true, AV.w64 (BitVec.ofInt (64 : Nat) (0 : Int) &&& mkW (0 : Int)), AV.w64 (BitVec.ofInt (64 : Nat) (0 : Int) &&& mkW ((0 : Int) - (64 : Int))), AV.w64 (mkW (0 : Int)), AV.w64 (mkW ((0 : Int) - (64 : Int))), AV.int IntKind.i64 (clamp (0 : Int)), AV.int IntKind.i64 (3 : Int)], AV.agg [AV.bool true, AV.w64 (BitVec.ofInt (64 : Nat) (0 : Int) &&& mkW (0 : Int)), AV.w64 (BitVec.ofInt (64 : Nat) (0 : Int) &&& mkW ((0 : Int) - (64 : Int))), AV.w64 (mkW (0 : Int)), AV.w64 (mkW ((0 : Int) - (64 : Int))), AV.int IntKind.i64 (clamp (0 : Int)), AV.int IntKind.i64 (3 : Int)]] ∧ List.length (deS [AV.agg [AV.bool true, AV.w64 (BitVec.ofInt (64 : Nat) (0 : Int) &&& mkW (0 : Int)), AV.w64 (BitVec.ofInt (64 : Nat) (0 : Int) &&& mkW ((0 : Int) - (64 : Int))), AV.w64 (mkW (0 : Int)), AV.w64 (mkW ((0 : Int) - (64 : Int))), AV.int IntKind.i64 (clamp (0 : Int)), AV.int IntKind.i64 (3 : Int)], AV.agg [AV.bool true, AV.w64 (BitVec.ofInt (64 : Nat) (0 : Int) &&& mkW (0 : Int)), AV.w64 (BitVec.ofInt (64 : Nat) (0 : Int) &&& mkW ((0 : Int) - (64 : Int))), AV.w64 (mkW (0 : Int)), AV.w64 (mkW ((0 : Int) - (64 : Int))), AV.int IntKind.i64 (clamp (0 : Int)), AV.int IntKind.i64 (3 : Int)]]) ≤ (9223372036854775807 : Nat) ∧ AV.bool (frS (deS [AV.agg [AV.bool true, AV.w64 (BitVec.ofInt (64 : Nat) (0 : Int) &&& mkW (0 : Int)), AV.w64 (BitVec.ofInt (64 : Nat) (0 : Int) &&& mkW ((0 : Int) - (64 : Int))), AV.w64 (mkW (0 : Int)), AV.w64 (mkW ((0 : Int) - (64 : Int))), AV.int IntKind.i64 (clamp (0 : Int)), AV.int IntKind.i64 (3 : Int)], AV.agg [AV.bool true, AV.w64 (BitVec.ofInt (64 : Nat) (0 : Int) &&& mkW (0 : Int)), AV.w64 (BitVec.ofInt (64 : Nat) (0 : Int) &&& mkW ((0 : Int) - (64 : Int))), AV.w64 (mkW (0 : Int)), AV.w64 (mkW ((0 : Int) - (64 : Int))), AV.int IntKind.i64 (clamp (0 : Int)), AV.int IntKind.i64 (3 : Int)]]) == (0 : Int)) = AV.bool true) ∧ [AV.agg [AV.bool false, AV.w64 (BitVec.ofNat (64 : Nat) (0 : Nat)), AV.w64 (BitVec.ofNat (64 : Nat) (0 : Nat)), AV.w64 (BitVec.ofNat (64 : Nat) (0 : Nat)), AV.w64 (BitVec.ofNat (64 : Nat) (0 : Nat)), AV.int IntKind.i64 (0 : Int), AV.int IntKind.i64 (0 : Int)], AV.agg [AV.bool false, AV.w64 (BitVec.ofNat (64 : Nat) (0 : Nat)), AV.w64 (BitVec.ofNat (64 : Nat) (0 : Nat)), AV.w64 (BitVec.ofNat (64 : Nat) (0 : Nat)), AV.w64 (BitVec.ofNat (64 : Nat) (0 : Nat)), AV.int IntKind.i64 (0 : Int), AV.int IntKind.i64 (0 : Int)]] = [AV.agg [AV.bool false, AV.w64 (BitVec.ofNat (64 : Nat) (0 : Nat)), AV.w64 (BitVec.ofNat (64 : Nat) (0 : Nat)), AV.w64 (BitVec.ofNat (64 : Nat) (0 : Nat)), AV.w64 (BitVec.ofNat (64 : Nat) (0 : Nat)), AV.int IntKind.i64 (0 : Int), AV.int IntKind.i64 (0 : Int)], AV.agg [AV.bool false, AV.w64 (BitVec.ofNat (64 : Nat) (0 : Nat)), AV.w64 (BitVec.ofNat (64 : Nat) (0 : Nat)), AV.w64 (BitVec.ofNat (64 : Nat) (0 : Nat)), AV.w64 (BitVec.ofNat (64 : Nat) (0 : Nat)), AV.int IntKind.i64 (0 : Int), AV.int IntKind.i64 (0 : Int)]] ∧ List.length (deS [AV.agg [AV.bool false, AV.w64 (BitVec.ofNat (64 : Nat) (0 : Nat)), AV.w64 (BitVec.ofNat (64 : Nat) (0 : Nat)), AV.w64 (BitVec.ofNat (64 : Nat) (0 : Nat)), AV.w64 (BitVec.ofNat (64 : Nat) (0 : Nat)), AV.int IntKind.i64 (0 : Int), AV.int IntKind.i64 (0 : Int)], AV.agg [AV.bool false, AV.w64 (BitVec.ofNat (64 : Nat) (0 : Nat)), AV.w64 (BitVec.ofNat (64 : Nat) (0 : Nat)), AV.w64 (BitVec.ofNat (64 : Nat) (0 : Nat)), AV.w64 (BitVec.ofNat (64 : Nat) (0 : Nat)), AV.int IntKind.i64 (0 : Int), AV.int IntKind.i64 (0 : Int)]]) ≤ (256 : Nat) ∧ (0 : Int) ≤ (0 : Int) ∧ (0 : Int) ≤ (1000000 : Int) ∧ [AV.agg [AV.bool true, AV.w64 (BitVec.ofInt (64 : Nat) (0 : Int) &&& mkW (0 : Int)), AV.w64 (BitVec.ofInt (64 : Nat) (0 : Int) &&& mkW ((0 : Int) - (64 : Int))), AV.w64 (mkW (0 : Int)), AV.w64 (mkW ((0 : Int) - (64 : Int))), AV.int IntKind.i64 (clamp (0 : Int)), AV.int IntKind.i64 (3 : Int)], AV.agg [AV.bool false, AV.w64 (BitVec.ofNat (64 : Nat) (0 : Nat)), AV.w64 (BitVec.ofNat (64 : Nat) (0 : Nat)), AV.w64 (BitVec.ofNat (64 : Nat) (0 : Nat)), AV.w64 (BitVec.ofNat (64 : Nat) (0 : Nat)), AV.int IntKind.i64 (0 : Int), AV.int IntKind.i64 (0 : Int)]] = [AV.agg [AV.bool true, AV.w64 (BitVec.ofInt (64 : Nat) (0 : Int) &&& mkW (0 : Int)), AV.w64 (BitVec.ofInt (64 : Nat) (0 : Int) &&& mkW ((0 : Int) - (64 : Int))), AV.w64 (mkW (0 : Int)), AV.w64 (mkW ((0 : Int) - (64 : Int))), AV.int IntKind.i64 (clamp (0 : Int)), AV.int IntKind.i64 (3 : Int)], AV.agg [AV.bool false, AV.w64 (BitVec.ofNat (64 : Nat) (0 : Nat)), AV.w64 (BitVec.ofNat (64 : Nat) (0 : Nat)), AV.w64 (BitVec.ofNat (64 : Nat) (0 : Nat)), AV.w64 (BitVec.ofNat (64 : Nat) (0 : Nat)), AV.int IntKind.i64 (0 : Int), AV.int IntKind.i64 (0 : Int)]] ∧ List.length (deS [AV.agg [AV.bool true, AV.w64 (BitVec.ofInt (64 : Nat) (0 : Int) &&& mkW (0 : Int)), AV.w64 (BitVec.ofInt (64 : Nat) (0 : Int) &&& mkW ((0 : Int) - (64 : Int))), AV.w64 (mkW (0 : Int)), AV.w64 (mkW ((0 : Int) - (64 : Int))), AV.int IntKind.i64 (clamp (0 : Int)), AV.int IntKind.i64 (3 : Int)], AV.agg [AV.bool false, AV.w64 (BitVec.ofNat (64 : Nat) (0 : Nat)), AV.w64 (BitVec.ofNat (64 : Nat) (0 : Nat)), AV.w64 (BitVec.ofNat (64 : Nat) (0 : Nat)), AV.w64 (BitVec.ofNat (64 : Nat) (0 : Nat)), AV.int IntKind.i64 (0 : Int), AV.int IntKind.i64 (0 : Int)]]) ≤ (256 : Nat) ∧ (0 : Int) ≤ cnS (0 : Int) (Wr.mk (0 : Int) (Sl.mk true (En.mk (BitVec.ofInt (64 : Nat) (0 : Int) &&& mkW (0 : Int)) (BitVec.ofInt (64 : Nat) (0 : Int) &&& mkW ((0 : Int) - (64 : Int))) (mkW (0 : Int)) (mkW ((0 : Int) - (64 : Int))) (clamp (0 : Int)) (3 : Int)))) (↑(List.length (deS [AV.agg [AV.bool false, AV.w64 (BitVec.ofNat (64 : Nat) (0 : Nat)), AV.w64 (BitVec.ofNat (64 : Nat) (0 : Nat)), AV.w64 (BitVec.ofNat (64 : Nat) (0 : Nat)), AV.w64 (BitVec.ofNat (64 : Nat) (0 : Nat)), AV.int IntKind.i64 (0 : Int), AV.int IntKind.i64 (0 : Int)], AV.agg [AV.bool false, AV.w64 (BitVec.ofNat (64 : Nat) (0 : Nat)), AV.w64 (BitVec.ofNat (64 : Nat) (0 : Nat)), AV.w64 (BitVec.ofNat (64 : Nat) (0 : Nat)), AV.w64 (BitVec.ofNat (64 : Nat) (0 : Nat)), AV.int IntKind.i64 (0 : Int), AV.int IntKind.i64 (0 : Int)]])) : Int) ∧ cnS (0 : Int) (Wr.mk (0 : Int) (Sl.mk true (En.mk (BitVec.ofInt (64 : Nat) (0 : Int) &&& mkW (0 : Int)) (BitVec.ofInt (64 : Nat) (0 : Int) &&& mkW ((0 : Int) - (64 : Int))) (mkW (0 : Int)) (mkW ((0 : Int) - (64 : Int))) (clamp (0 : Int)) (3 : Int)))) (↑(List.length (deS [AV.agg [AV.bool false, AV.w64 (BitVec.ofNat (64 : Nat) (0 : Nat)), AV.w64 (BitVec.ofNat (64 : Nat) (0 : Nat)), AV.w64 (BitVec.ofNat (64 : Nat) (0 : Nat)), AV.w64 (BitVec.ofNat (64 : Nat) (0 : Nat)), AV.int IntKind.i64 (0 : Int), AV.int IntKind.i64 (0 : Int)], AV.agg [AV.bool false, AV.w64 (BitVec.ofNat (64 : Nat) (0 : Nat)), AV.w64 (BitVec.ofNat (64 : Nat) (0 : Nat)), AV.w64 (BitVec.ofNat (64 : Nat) (0 : Nat)), AV.w64 (BitVec.ofNat (64 : Nat) (0 : Nat)), AV.int IntKind.i64 (0 : Int), AV.int IntKind.i64 (0 : Int)]])) : Int) ≤ (1000000 : Int) ∧ [AV.agg [AV.bool true, AV.w64 (BitVec.ofInt (64 : Nat) (0 : Int) &&& mkW (0 : Int)), AV.w64 (BitVec.ofInt (64 : Nat) (0 : Int) &&& mkW ((0 : Int) - (64 : Int))), AV.w64 (mkW (0 : Int)), AV.w64 (mkW ((0 : Int) - (64 : Int))), AV.int IntKind.i64 (clamp (0 : Int)), AV.int IntKind.i64 (3 : Int)], AV.agg [AV.bool true, AV.w64 (BitVec.ofInt (64 : Nat) (0 : Int) &&& mkW (0 : Int)), AV.w64 (BitVec.ofInt (64 : Nat) (0 : Int) &&& mkW ((0 : Int) - (64 : Int))), AV.w64 (mkW (0 : Int)), AV.w64 (mkW ((0 : Int) - (64 : Int))), AV.int IntKind.i64 (clamp (0 : Int)), AV.int IntKind.i64 (3 : Int)]] = [AV.agg [AV.bool true, AV.w64 (BitVec.ofInt (64 : Nat) (0 : Int) &&& mkW (0 : Int)), AV.w64 (BitVec.ofInt (64 : Nat) (0 : Int) &&& mkW ((0 : Int) - (64 : Int))), AV.w64 (mkW (0 : Int)), AV.w64 (mkW ((0 : Int) - (64 : Int))), AV.int IntKind.i64 (clamp (0 : Int)), AV.int IntKind.i64 (3 : Int)], AV.agg [AV.bool true, AV.w64 (BitVec.ofInt (64 : Nat) (0 : Int) &&& mkW (0 : Int)), AV.w64 (BitVec.ofInt (64 : Nat) (0 : Int) &&& mkW ((0 : Int) - (64 : Int))), AV.w64 (mkW (0 : Int)), AV.w64 (mkW ((0 : Int) - (64 : Int))), AV.int IntKind.i64 (clamp (0 : Int)), AV.int IntKind.i64 (3 : Int)]] ∧ List.length (deS [AV.agg [AV.bool true, AV.w64 (BitVec.ofInt (64 : Nat) (0 : Int) &&& mkW (0 : Int)), AV.w64 (BitVec.ofInt (64 : Nat) (0 : Int) &&& mkW ((0 : Int) - (64 : Int))), AV.w64 (mkW (0 : Int)), AV.w64 (mkW ((0 : Int) - (64 : Int))), AV.int IntKind.i64 (clamp (0 : Int)), AV.int IntKind.i64 (3 : Int)], AV.agg [AV.bool true, AV.w64 (BitVec.ofInt (64 : Nat) (0 : Int) &&& mkW (0 : Int)), AV.w64 (BitVec.ofInt (64 : Nat) (0 : Int) &&& mkW ((0 : Int) - (64 : Int))), AV.w64 (mkW (0 : Int)), AV.w64 (mkW ((0 : Int) - (64 : Int))), AV.int IntKind.i64 (clamp (0 : Int)), AV.int IntKind.i64 (3 : Int)]]) ≤ (256 : Nat) ∧ (erS (Wr.mk (0 : Int) (Sl.mk true (En.mk (BitVec.ofInt (64 : Nat) (0 : Int) &&& mkW (0 : Int)) (BitVec.ofInt (64 : Nat) (0 : Int) &&& mkW ((0 : Int) - (64 : Int))) (mkW (0 : Int)) (mkW ((0 : Int) - (64 : Int))) (clamp (0 : Int)) (3 : Int)))) (↑(List.length (deS [AV.agg [AV.bool false, AV.w64 (BitVec.ofNat (64 : Nat) (0 : Nat)), AV.w64 (BitVec.ofNat (64 : Nat) (0 : Nat)), AV.w64 (BitVec.ofNat (64 : Nat) (0 : Nat)), AV.w64 (BitVec.ofNat (64 : Nat) (0 : Nat)), AV.int IntKind.i64 (0 : Int), AV.int IntKind.i64 (0 : Int)], AV.agg [AV.bool false, AV.w64 (BitVec.ofNat (64 : Nat) (0 : Nat)), AV.w64 (BitVec.ofNat (64 : Nat) (0 : Nat)), AV.w64 (BitVec.ofNat (64 : Nat) (0 : Nat)), AV.w64 (BitVec.ofNat (64 : Nat) (0 : Nat)), AV.int IntKind.i64 (0 : Int), AV.int IntKind.i64 (0 : Int)]])) : Int) == (0 : Int)) = true ∧ (erS (Wr.mk (1 : Int) (Sl.mk true (En.mk (BitVec.ofInt (64 : Nat) (0 : Int) &&& mkW (0 : Int)) (BitVec.ofInt (64 : Nat) (0 : Int) &&& mkW ((0 : Int) - (64 : Int))) (mkW (0 : Int)) (mkW ((0 : Int) - (64 : Int))) (clamp (0 : Int)) (3 : Int)))) (↑(List.length (deS [AV.agg [AV.bool true, AV.w64 (BitVec.ofInt (64 : Nat) (0 : Int) &&& mkW (0 : Int)), AV.w64 (BitVec.ofInt (64 : Nat) (0 : Int) &&& mkW ((0 : Int) - (64 : Int))), AV.w64 (mkW (0 : Int)), AV.w64 (mkW ((0 : Int) - (64 : Int))), AV.int IntKind.i64 (clamp (0 : Int)), AV.int IntKind.i64 (3 : Int)], AV.agg [AV.bool false, AV.w64 (BitVec.ofNat (64 : Nat) (0 : Nat)), AV.w64 (BitVec.ofNat (64 : Nat) (0 : Nat)), AV.w64 (BitVec.ofNat (64 : Nat) (0 : Nat)), AV.w64 (BitVec.ofNat (64 : Nat) (0 : Nat)), AV.int IntKind.i64 (0 : Int), AV.int IntKind.i64 (0 : Int)]])) : Int) == (0 : Int)) = true ∧ Decidable.decide (fnS (deS [AV.agg [AV.bool true, AV.w64 (BitVec.ofInt (64 : Nat) (0 : Int) &&& mkW (0 : Int)), AV.w64 (BitVec.ofInt (64 : Nat) (0 : Int) &&& mkW ((0 : Int) - (64 : Int))), AV.w64 (mkW (0 : Int)), AV.w64 (mkW ((0 : Int) - (64 : Int))), AV.int IntKind.i64 (clamp (0 : Int)), AV.int IntKind.i64 (3 : Int)], AV.agg [AV.bool true, AV.w64 (BitVec.ofInt (64 : Nat) (0 : Int) &&& mkW (0 : Int)), AV.w64 (BitVec.ofInt (64 : Nat) (0 : Int) &&& mkW ((0 : Int) - (64 : Int))), AV.w64 (mkW (0 : Int)), AV.w64 (mkW ((0 : Int) - (64 : Int))), AV.int IntKind.i64 (clamp (0 : Int)), AV.int IntKind.i64 (3 : Int)]]) (BitVec.ofInt (64 : Nat) (5 : Int)) (BitVec.ofInt (64 : Nat) (0 : Int)) ≥ (0 : Int)) = true ∧ (mx0 (fnS (deS [AV.agg [AV.bool true, AV.w64 (BitVec.ofInt (64 : Nat) (0 : Int) &&& mkW (0 : Int)), AV.w64 (BitVec.ofInt (64 : Nat) (0 : Int) &&& mkW ((0 : Int) - (64 : Int))), AV.w64 (mkW (0 : Int)), AV.w64 (mkW ((0 : Int) - (64 : Int))), AV.int IntKind.i64 (clamp (0 : Int)), AV.int IntKind.i64 (3 : Int)], AV.agg [AV.bool true, AV.w64 (BitVec.ofInt (64 : Nat) (0 : Int) &&& mkW (0 : Int)), AV.w64 (BitVec.ofInt (64 : Nat) (0 : Int) &&& mkW ((0 : Int) - (64 : Int))), AV.w64 (mkW (0 : Int)), AV.w64 (mkW ((0 : Int) - (64 : Int))), AV.int IntKind.i64 (clamp (0 : Int)), AV.int IntKind.i64 (3 : Int)]]) (BitVec.ofInt (64 : Nat) (5 : Int)) (BitVec.ofInt (64 : Nat) (0 : Int))) == (0 : Int)) = true ∧ (cnS (cnS (0 : Int) (Wr.mk (0 : Int) (Sl.mk true (En.mk (BitVec.ofInt (64 : Nat) (0 : Int) &&& mkW (0 : Int)) (BitVec.ofInt (64 : Nat) (0 : Int) &&& mkW ((0 : Int) - (64 : Int))) (mkW (0 : Int)) (mkW ((0 : Int) - (64 : Int))) (clamp (0 : Int)) (3 : Int)))) (↑(List.length (deS [AV.agg [AV.bool false, AV.w64 (BitVec.ofNat (64 : Nat) (0 : Nat)), AV.w64 (BitVec.ofNat (64 : Nat) (0 : Nat)), AV.w64 (BitVec.ofNat (64 : Nat) (0 : Nat)), AV.w64 (BitVec.ofNat (64 : Nat) (0 : Nat)), AV.int IntKind.i64 (0 : Int), AV.int IntKind.i64 (0 : Int)], AV.agg [AV.bool false, AV.w64 (BitVec.ofNat (64 : Nat) (0 : Nat)), AV.w64 (BitVec.ofNat (64 : Nat) (0 : Nat)), AV.w64 (BitVec.ofNat (64 : Nat) (0 : Nat)), AV.w64 (BitVec.ofNat (64 : Nat) (0 : Nat)), AV.int IntKind.i64 (0 : Int), AV.int IntKind.i64 (0 : Int)]])) : Int)) (Wr.mk (1 : Int) (Sl.mk true (En.mk (BitVec.ofInt (64 : Nat) (0 : Int) &&& mkW (0 : Int)) (BitVec.ofInt (64 : Nat) (0 : Int) &&& mkW ((0 : Int) - (64 : Int))) (mkW (0 : Int)) (mkW ((0 : Int) - (64 : Int))) (clamp (0 : Int)) (3 : Int)))) (↑(List.length (deS [AV.agg [AV.bool true, AV.w64 (BitVec.ofInt (64 : Nat) (0 : Int) &&& mkW (0 : Int)), AV.w64 (BitVec.ofInt (64 : Nat) (0 : Int) &&& mkW ((0 : Int) - (64 : Int))), AV.w64 (mkW (0 : Int)), AV.w64 (mkW ((0 : Int) - (64 : Int))), AV.int IntKind.i64 (clamp (0 : Int)), AV.int IntKind.i64 (3 : Int)], AV.agg [AV.bool false, AV.w64 (BitVec.ofNat (64 : Nat) (0 : Nat)), AV.w64 (BitVec.ofNat (64 : Nat) (0 : Nat)), AV.w64 (BitVec.ofNat (64 : Nat) (0 : Nat)), AV.w64 (BitVec.ofNat (64 : Nat) (0 : Nat)), AV.int IntKind.i64 (0 : Int), AV.int IntKind.i64 (0 : Int)]])) : Int) == (2 : Int)) = true ∧ [AV.agg [AV.bool true, AV.w64 (BitVec.ofInt (64 : Nat) (0 : Int) &&& mkW (0 : Int)), AV.w64 (BitVec.ofInt (64 : Nat) (0 : Int) &&& mkW ((0 : Int) - (64 : Int))), AV.w64 (mkW (0 : Int)), AV.w64 (mkW ((0 : Int) - (64 : Int))), AV.int IntKind.i64 (clamp (0 : Int)), AV.int IntKind.i64 (3 : Int)], AV.agg [AV.bool true, AV.w64 (BitVec.ofInt (64 : Nat) (0 : Int) &&& mkW (0 : Int)), AV.w64 (BitVec.ofInt (64 : Nat) (0 : Int) &&& mkW ((0 : Int) - (64 : Int))), AV.w64 (mkW (0 : Int)), AV.w64 (mkW ((0 : Int) - (64 : Int))), AV.int IntKind.i64 (clamp (0 : Int)), AV.int IntKind.i64 (3 : Int)]] = [AV.agg [AV.bool true, AV.w64 (BitVec.ofInt (64 : Nat) (0 : Int) &&& mkW (0 : Int)), AV.w64 (BitVec.ofInt (64 : Nat) (0 : Int) &&& mkW ((0 : Int) - (64 : Int))), AV.w64 (mkW (0 : Int)), AV.w64 (mkW ((0 : Int) - (64 : Int))), AV.int IntKind.i64 (clamp (0 : Int)), AV.int IntKind.i64 (3 : Int)], AV.agg [AV.bool true, AV.w64 (BitVec.ofInt (64 : Nat) (0 : Int) &&& mkW (0 : Int)), AV.w64 (BitVec.ofInt (64 : Nat) (0 : Int) &&& mkW ((0 : Int) - (64 : Int))), AV.w64 (mkW (0 : Int)), AV.w64 (mkW ((0 : Int) - (64 : Int))), AV.int IntKind.i64 (clamp (0 : Int)), AV.int IntKind.i64 (3 : Int)]] ∧ List.length (deS [AV.agg [AV.bool true, AV.w64 (BitVec.ofInt (64 : Nat) (0 : Int) &&& mkW (0 : Int)), AV.w64 (BitVec.ofInt (64 : Nat) (0 : Int) &&& mkW ((0 : Int) - (64 : Int))), AV.w64 (mkW (0 : Int)), AV.w64 (mkW ((0 : Int) - (64 : Int))), AV.int IntKind.i64 (clamp (0 : Int)), AV.int IntKind.i64 (3 : Int)], AV.agg [AV.bool true, AV.w64 (BitVec.ofInt (64 : Nat) (0 : Int) &&& mkW (0 : Int)), AV.w64 (BitVec.ofInt (64 : Nat) (0 : Int) &&& mkW ((0 : Int) - (64 : Int))), AV.w64 (mkW (0 : Int)), AV.w64 (mkW ((0 : Int) - (64 : Int))), AV.int IntKind.i64 (clamp (0 : Int)), AV.int IntKind.i64 (3 : Int)]]) ≤ (256 : Nat) ∧ (0 : Nat) + List.length [AV.agg [AV.bool true, AV.w64 (BitVec.ofInt (64 : Nat) (0 : Int) &&& mkW (0 : Int)), AV.w64 (BitVec.ofInt (64 : Nat) (0 : Int) &&& mkW ((0 : Int) - (64 : Int))), AV.w64 (mkW (0 : Int)), AV.w64 (mkW ((0 : Int) - (64 : Int))), AV.int IntKind.i64 (clamp (0 : Int)), AV.int IntKind.i64 (3 : Int)], AV.agg [AV.bool true, AV.w64 (BitVec.ofInt (64 : Nat) (0 : Int) &&& mkW (0 : Int)), AV.w64 (BitVec.ofInt (64 : Nat) (0 : Int) &&& mkW ((0 : Int) - (64 : Int))), AV.w64 (mkW (0 : Int)), AV.w64 (mkW ((0 : Int) - (64 : Int))), AV.int IntKind.i64 (clamp (0 : Int)), AV.int IntKind.i64 (3 : Int)]] ≤ List.length [AV.agg [AV.bool true, AV.w64 (BitVec.ofInt (64 : Nat) (0 : Int) &&& mkW (0 : Int)), AV.w64 (BitVec.ofInt (64 : Nat) (0 : Int) &&& mkW ((0 : Int) - (64 : Int))), AV.w64 (mkW (0 : Int)), AV.w64 (mkW ((0 : Int) - (64 : Int))), AV.int IntKind.i64 (clamp (0 : Int)), AV.int IntKind.i64 (3 : Int)], AV.agg [AV.bool true, AV.w64 (BitVec.ofInt (64 : Nat) (0 : Int) &&& mkW (0 : Int)), AV.w64 (BitVec.ofInt (64 : Nat) (0 : Int) &&& mkW ((0 : Int) - (64 : Int))), AV.w64 (mkW (0 : Int)), AV.w64 (mkW ((0 : Int) - (64 : Int))), AV.int IntKind.i64 (clamp (0 : Int)), AV.int IntKind.i64 (3 : Int)]] ∧ [AV.agg [AV.bool true, AV.w64 (BitVec.ofInt (64 : Nat) (0 : Int) &&& mkW (0 : Int)), AV.w64 (BitVec.ofInt (64 : Nat) (0 : Int) &&& mkW ((0 : Int) - (64 : Int))), AV.w64 (mkW (0 : Int)), AV.w64 (mkW ((0 : Int) - (64 : Int))), AV.int IntKind.i64 (clamp (0 : Int)), AV.int IntKind.i64 (3 : Int)], AV.agg [AV.bool true, AV.w64 (BitVec.ofInt (64 : Nat) (0 : Int) &&& mkW (0 : Int)), AV.w64 (BitVec.ofInt (64 : Nat) (0 : Int) &&& mkW ((0 : Int) - (64 : Int))), AV.w64 (mkW (0 : Int)), AV.w64 (mkW ((0 : Int) - (64 : Int))), AV.int IntKind.i64 (clamp (0 : Int)), AV.int IntKind.i64 (3 : Int)]] = [AV.agg [AV.bool true, AV.w64 (BitVec.ofInt (64 : Nat) (0 : Int) &&& mkW (0 : Int)), AV.w64 (BitVec.ofInt (64 : Nat) (0 : Int) &&& mkW ((0 : Int) - (64 : Int))), AV.w64 (mkW (0 : Int)), AV.w64 (mkW ((0 : Int) - (64 : Int))), AV.int IntKind.i64 (clamp (0 : Int)), AV.int IntKind.i64 (3 : Int)], AV.agg [AV.bool true, AV.w64 (BitVec.ofInt (64 : Nat) (0 : Int) &&& mkW (0 : Int)), AV.w64 (BitVec.ofInt (64 : Nat) (0 : Int) &&& mkW ((0 : Int) - (64 : Int))), AV.w64 (mkW (0 : Int)), AV.w64 (mkW ((0 : Int) - (64 : Int))), AV.int IntKind.i64 (clamp (0 : Int)), AV.int IntKind.i64 (3 : Int)]] ∧ List.length (deS [AV.agg [AV.bool true, AV.w64 (BitVec.ofInt (64 : Nat) (0 : Int) &&& mkW (0 : Int)), AV.w64 (BitVec.ofInt (64 : Nat) (0 : Int) &&& mkW ((0 : Int) - (64 : Int))), AV.w64 (mkW (0 : Int)), AV.w64 (mkW ((0 : Int) - (64 : Int))), AV.int IntKind.i64 (clamp (0 : Int)), AV.int IntKind.i64 (3 : Int)], AV.agg [AV.bool true, AV.w64 (BitVec.ofInt (64 : Nat) (0 : Int) &&& mkW (0 : Int)), AV.w64 (BitVec.ofInt (64 : Nat) (0 : Int) &&& mkW ((0 : Int) - (64 : Int))), AV.w64 (mkW (0 : Int)), AV.w64 (mkW ((0 : Int) - (64 : Int))), AV.int IntKind.i64 (clamp (0 : Int)), AV.int IntKind.i64 (3 : Int)]]) ≤ (9223372036854775807 : Nat) ∧ AV.bool (frS (deS [AV.agg [AV.bool true, AV.w64 (BitVec.ofInt (64 : Nat) (0 : Int) &&& mkW (0 : Int)), AV.w64 (BitVec.ofInt (64 : Nat) (0 : Int) &&& mkW ((0 : Int) - (64 : Int))), AV.w64 (mkW (0 : Int)), AV.w64 (mkW ((0 : Int) - (64 : Int))), AV.int IntKind.i64 (clamp (0 : Int)), AV.int IntKind.i64 (3 : Int)], AV.agg [AV.bool true, AV.w64 (BitVec.ofInt (64 : Nat) (0 : Int) &&& mkW (0 : Int)), AV.w64 (BitVec.ofInt (64 : Nat) (0 : Int) &&& mkW ((0 : Int) - (64 : Int))), AV.w64 (mkW (0 : Int)), AV.w64 (mkW ((0 : Int) - (64 : Int))), AV.int IntKind.i64 (clamp (0 : Int)), AV.int IntKind.i64 (3 : Int)]]) == (0 : Int)) = AV.bool true) ∧ (¬((1 : Int) ≤ (2 : Int) ∧ (2 : Int) ≤ (256 : Int)) → ((1 : Int) != (0 : Int)) = false ∧ true = false ∧ False ∧ False)) := by kernel_rfl

theorem awake8_law : ∃ hs, run awake8Cs Try.prog 11 [] [] hs (comesTo (.bool true)) := by
  refine ⟨aw8H, ?_⟩
  rw [awake8_run ()]
  refine ⟨fun _ => ?_, fun h => absurd ⟨by decide, by decide⟩ h⟩
  repeat' (apply And.intro)
  all_goals first | kernel_rfl | exact of_decide_eq_true (by kernel_rfl)

theorem awake8_of (h : ∀ e ∈ awake8Cs, SpecOK Try.prog e.1 e.2) : SpecOK Try.prog 11 awakeSpec := by
  obtain ⟨hs, r⟩ := awake8_law
  exact awake_ok (run_ok (l := awake8Cs) h mixed noNG) r

noncomputable def l8Cs : List (FuncId × Sx.Spec) := [(11, awakeSpec), (35, genSpec [none] one8F), (23, genSpec [pSl] of8F), (14, genSpec [pWr] writes8F), (17, genSpec [pSl, pRefS] same8F),
  (15, genSpec [none, none] rmay8F), (19, genSpec [pRefS, pRefW] rapply8F), (25, genSpec [pRefS] rentries8F), (22, genSpec [pRefS, none] rfind8F), (30, genSpec [pRefS, none] rtell8F),
  (26, genSpec [none] one5F), (32, genSpec [pRefE] rorderedF), (33, genSpec [pRefE, none] rtellF), (34, genSpec [pEn, none] rtellF)] ++ b8Cs

end Go.Proofs.Yteagcgocmdjobaa.L1
end

