/-
  Texts in one: L8T L8A L8B L8C L8P.
-/
import Derived.Test.YtmkppicnbjoijaaL5a
import Derived.Test.YtmkppicnbjoijaaMa

section
/-
  Layer 8: slots and writes as values of the calculus.
-/
namespace Go.Proofs.Ytmkppicnbjoijaa.L1
open Go.Sx Go.Sx.M

def cB : AV → Bool
  | .bool b => b
  | _ => false

/-- Its word. -/
def wdS (x : Sl) : AV := .agg [.w64 x.e.v, .w64 x.e.w, .w64 x.e.m, .w64 x.e.n]

/-- A slot's cells, a write's. -/
def slE (x : Sl) : AV := .agg [.bool x.ok, .w64 x.e.v, .w64 x.e.w, .w64 x.e.m, .w64 x.e.n, .int .i64 x.e.len, .int .i64 x.e.act]
def wrE (x : Wr) : AV := .agg [.int .i64 x.p, .bool x.s.ok, .w64 x.s.e.v, .w64 x.s.e.w, .w64 x.s.e.m, .w64 x.s.e.n, .int .i64 x.s.e.len, .int .i64 x.s.e.act]

def deS1 (x : AV) : Sl := ⟨cB (x.cells.getD 0 .any), ⟨cW (x.cells.getD 1 .any), cW (x.cells.getD 2 .any), cW (x.cells.getD 3 .any), cW (x.cells.getD 4 .any), cI (x.cells.getD 5 .any), cI (x.cells.getD 6 .any)⟩⟩
def deS (l : List AV) : List Sl := l.map deS1
theorem deS_map (l : List Sl) : deS (l.map slE) = l := by
  unfold deS
  rw [List.map_map]
  exact List.map_id l

def deW1 (x : AV) : Wr := ⟨cI (x.cells.getD 0 .any), ⟨cB (x.cells.getD 1 .any), ⟨cW (x.cells.getD 2 .any), cW (x.cells.getD 3 .any), cW (x.cells.getD 4 .any), cW (x.cells.getD 5 .any), cI (x.cells.getD 6 .any), cI (x.cells.getD 7 .any)⟩⟩⟩
def deW (l : List AV) : List Wr := l.map deW1
theorem deW_map (l : List Wr) : deW (l.map wrE) = l := by
  unfold deW
  rw [List.map_map]
  exact List.map_id l

def pSl : Par := some (61, 7)
def pWr : Par := some (64, 8)
def pRefS : Par := some (71, 7)
def pRefW : Par := some (81, 8)

theorem sl_whole (x : Sl) : partOf Try.prog 61 (slE x).cells 0 = some (slE x) := by kernel_rfl
theorem sl_ok (x : Sl) : partOf Try.prog 4 (slE x).cells 0 = some (.bool x.ok) := by kernel_rfl
theorem sl_word (x : Sl) : partOf Try.prog 41 (slE x).cells 1 = some (wdS x) := by kernel_rfl
theorem rsl_whole (x : Sl) : partOf Try.prog 71 (slE x).cells 0 = some (slE x) := by kernel_rfl
theorem rsl_entry (x : Sl) : partOf Try.prog 43 (slE x).cells 1 = some (enE x.e) := by kernel_rfl
theorem sl_act (x : Sl) : partOf Try.prog 3 (slE x).cells 6 = some (.int .i64 x.e.act) := by kernel_rfl
theorem wr_whole (x : Wr) : partOf Try.prog 64 (wrE x).cells 0 = some (wrE x) := by kernel_rfl
theorem rwr_whole (x : Wr) : partOf Try.prog 81 (wrE x).cells 0 = some (wrE x) := by kernel_rfl
theorem wr_at (x : Wr) : partOf Try.prog 3 (wrE x).cells 0 = some (.int .i64 x.p) := by kernel_rfl
theorem rwr_slot (x : Wr) : partOf Try.prog 71 (wrE x).cells 1 = some (slE x.s) := by kernel_rfl

/-- An element of a row is written. -/
theorem fit_rows {T : Type} [Inhabited T] {en : T → AV} {l : List T} {b : Bool} {ty : TypeId} {esz : Nat} {k : Int} {v : AV} (h0 : 0 ≤ k) (h1 : k < (l.length : Int)) (hf : fitElem (en (at' l k.toNat)) 0 v = true) :
    (Blk.mk b ty esz true (l.map en)).fits (0 + k.toNat) 0 v = true := by
  unfold Blk.fits
  rw [Nat.zero_add, List.getElem?_map, at_get (show k.toNat < l.length by omega)]
  exact hf

theorem wr_rows {T : Type} [Inhabited T] {en : T → AV} {l : List T} {b : Bool} {ty : TypeId} {esz : Nat} {k : Int} {x : T} {es : List AV} (h0 : 0 ≤ k) (h1 : k < (l.length : Int)) (hw : wrElem (en (at' l k.toNat)) 0 (en x) = en x) (he : (l.set k.toNat x).map en = es) :
    (Blk.mk b ty esz true (l.map en)).writes (0 + k.toNat) 0 (en x) es := by
  unfold Blk.writes Blk.write
  dsimp only
  rw [Nat.zero_add, List.getElem?_map, at_get (show k.toNat < l.length by omega), Option.map_some]
  dsimp only
  rw [hw, ← he, List.map_set]

theorem Sl_dec (cs : List Value) (h : fitsAll [.bool, .int .u64, .int .u64, .int .u64, .int .u64, .int .i64, .int .i64] cs) : ∃ x : Sl, (slE x).cells.length = 7 ∧ (slE x).sound = true ∧ AVRs [] (slE x).cells cs := by
  obtain ⟨y0, l0, rfl, e0, g⟩ := fits_cons h
  obtain ⟨b, rfl⟩ := e0
  obtain ⟨x, _, _, hx⟩ := En_dec _ g
  exact ⟨⟨b, x⟩, rfl, rfl, .cons (.bool _) hx⟩

end Go.Proofs.Ytmkppicnbjoijaa.L1
end

section
/-
  Layer 8: contracts of the document's Right, May, Apply, Entries, Find, Tell.
-/
namespace Go.Proofs.Ytmkppicnbjoijaa.L1
open Go.Sx Go.Sx.M

/-- Entries. -/
def enSt (F : List En → List AV) (l : List Sl) (p : Nat) : St :=
  ⟨[.vsl 0 0 (l.map slE).length, .any, .any, .vsl 1 0 (ensS (l.take p)).length, .int .i64 p, .any, .any, .any, .any, .any, .any, .any, .any, .any, .any, .any, .any, .any, .any, .any, .any, .any, .any, .any, .any], [some ⟨false, 71, 7, true, l.map slE⟩, some ⟨true, 43, 6, true, F (ensS (l.take p))⟩]⟩
def enM0 : Modes := ⟨[1, 0, 0, 1, 2, 0, 0, 0, 0, 0, 0, 0, 0, 0, 0, 0, 0, 0, 0, 0, 0, 0, 0, 0, 0], [], [], [], [(3, 43, 6)]⟩
def enM : Modes := ⟨[1, 0, 0, 1, 1, 0, 0, 0, 0, 0, 0, 0, 0, 0, 0, 0, 0, 0, 0, 0, 0, 0, 0, 0, 0], [], [], [], []⟩
def enH (F : List En → List AV) (l : List Sl) : List Hint := [.linv _ 0 (enSt F l) (fun p => p ≤ l.length) (fun p => l.length + 1 - p) enM0 enM enM (fun _ => []) fun p =>
  [.fork [.dy, .cell (.bool (at' l p).ok), .fork [.dy, .cell (enE (at' l p).e), .rows (F (ensS (l.take (p + 1)))), .nw] [.nw]] []]]

noncomputable def rright8Cs : List (FuncId × Sx.Spec) := [(59, genSpec [none, none, none] opF)]

theorem rright8_run (v w m n : BitVec 64) (k j : Int) (r : AV) : run rright8Cs Try.prog 36 [.agg [.w64 v, .w64 w, .w64 m, .w64 n, .int .i64 k, .int .i64 j]] [] [.fork [.fork [.fork [.fork [] []] []] []] []] (yields (.v r)) =
    (((opW (0 : Int) v m == v && opW (0 : Int) w n == w) = true → (Decidable.decide (k ≥ (0 : Int)) = true → (Decidable.decide (k ≤ (128 : Int)) = true → (Decidable.decide (j ≥ (1 : Int)) = true → AV.bool (Decidable.decide (j ≤ (255 : Int))) = r) ∧ (Decidable.decide (j ≥ (1 : Int)) = false → AV.bool false = r)) ∧ (Decidable.decide (k ≤ (128 : Int)) = false → AV.bool false = r)) ∧ (Decidable.decide (k ≥ (0 : Int)) = false → AV.bool false = r)) ∧ ((opW (0 : Int) v m == v && opW (0 : Int) w n == w) = false → AV.bool false = r)) := by kernel_rfl

theorem rright8Cs_ok : ∀ e ∈ rright8Cs, SpecOK Try.prog e.1 e.2 := by
  intro e he
  simp only [rright8Cs, List.mem_cons, List.not_mem_nil, or_false] at he
  rcases he with rfl
  · exact op_ok

theorem rright8_ok : SpecOK Try.prog 36 (genSpec [none] erightF) := by
  refine genSpec_ok (run_ok (l := rright8Cs) rright8Cs_ok mixed noNG) fun l R hF => ?_
  unfold erightF at hF
  split at hF
  · rename_i v w m n k j
    refine ⟨_, hF, rfl, [.fork [.fork [.fork [.fork [] []] []] []] []], ?_⟩
    show run rright8Cs Try.prog _ [.agg [.w64 v, .w64 w, .w64 m, .w64 n, .int .i64 k, .int .i64 j]] [] _ _
    rw [rright8_run]
    have e : rtE ⟨v, w, m, n, k, j⟩ = ((v &&& m == v && w &&& n == w) && (decide (k ≥ 0) && (decide (k ≤ 128) && (decide (j ≥ 1) && decide (j ≤ 255))))) := rfl
    rw [e]
    refine ⟨fun h => ⟨fun h1 => ⟨fun h2 => ⟨fun h3 => ?_, fun h3 => ?_⟩, fun h2 => ?_⟩, fun h1 => ?_⟩, fun h => ?_⟩
    all_goals
      have h : (v &&& m == v && w &&& n == w) = _ := h
      rw [h]
    · rw [h1, h2, h3]; rfl
    · rw [h1, h2, h3]; rfl
    · rw [h1, h2]; rfl
    · rw [h1]; rfl
    · rfl
  · exact hF.elim


def rmay8F : List Arg → (Res → Prop) → Prop
  | [.v (.agg [.int .i64 p, .bool o, .w64 v, .w64 w, .w64 m, .w64 n, .int .i64 k, .int .i64 j]), .v (.int .i64 z)], R => R (.v (.bool (mayS ⟨p, ⟨o, ⟨v, w, m, n, k, j⟩⟩⟩ z)))
  | _, _ => False

def rapply8F : List Arg → (Res → Prop) → Prop
  | [.row r_l, .row r_w], R => r_l = (deS r_l).map slE ∧ (deS r_l).length ≤ 1000000 ∧ r_w = (deW r_w).map wrE ∧ (deW r_w).length ≤ 1000000 ∧ R (.vrow 71 7 ((apL (deS r_l) (deW r_w)).map slE))
  | _, _ => False

def rentries8F : List Arg → (Res → Prop) → Prop
  | [.row r_l], R => r_l = (deS r_l).map slE ∧ (deS r_l).length ≤ 1000000 ∧ R (.vrow 43 6 ((ensS (deS r_l)).map enE))
  | _, _ => False

theorem rentries8_run (l : List Sl) (F : List En → List AV) (es : List AV) : run [] Try.prog 19 [.vsl 0 0 (l.map slE).length] [some ⟨false, (pRefS.getD (0, 0)).1, (pRefS.getD (0, 0)).2, true, (l.map slE)⟩] (enH F l) (yields (.vrow 43 6 es)) =
    ((St.mk [AV.vsl 0 0 (List.length (List.map slE l)), .any, .any, AV.vsl (List.length [some (Blk.mk false (71 : TypeId) 7 true (List.map slE l))]) 0 0, AV.int IntKind.i64 0, .any, .any, .any, .any, .any, .any, .any, .any, .any, .any, .any, .any, .any, .any, .any, .any, .any, .any, .any, .any] ([some (Blk.mk false (71 : TypeId) 7 true (List.map slE l))] ++ [some (Blk.mk true (43 : TypeId) 6 true [])]) = enSt F l 0 ∧ Nat.le 0 (List.length l)) ∧ ∀ (p : Nat), Nat.le p (List.length l) → (Decidable.decide ((↑p : Int) < (↑(List.length (List.map slE l)) : Int)) = true → ((0 : Int) ≤ (↑p : Int) ∧ (↑p : Int) < (↑(List.length (List.map slE l)) : Int)) ∧ Blk.read Proofs.Try.prog (Blk.mk false (71 : TypeId) 7 true (List.map slE l)) 4 ((0 : Nat) + Int.toNat (↑p : Int)) ((0 : Nat) + (0 : Nat)) = some (AV.bool (at' l p).1) ∧ ((at' l p).1 = true → ((0 : Int) ≤ (↑p : Int) ∧ (↑p : Int) < (↑(List.length (List.map slE l)) : Int)) ∧ Blk.read Proofs.Try.prog (Blk.mk false (71 : TypeId) 7 true (List.map slE l)) 43 ((0 : Nat) + Int.toNat (↑p : Int)) ((0 : Nat) + (1 : Nat)) = some (AV.agg [AV.w64 (Sl.e (at' l p)).1, AV.w64 (Sl.e (at' l p)).2, AV.w64 (Sl.e (at' l p)).3, AV.w64 (Sl.e (at' l p)).4, AV.int IntKind.i64 (Sl.e (at' l p)).5, AV.int IntKind.i64 (Sl.e (at' l p)).6]) ∧ ((List.length (ensS (List.take p l)) + (1 : Nat)) * (48 : Nat) ≤ (140737488355328 : Nat) ∧ List.length (ensS (List.take p l)) + (1 : Nat) ≤ (9223372036854775807 : Nat) ∧ (0 : Nat) + (1 : Nat) ≤ List.length [AV.agg [AV.w64 (Sl.e (at' l p)).1, AV.w64 (Sl.e (at' l p)).2, AV.w64 (Sl.e (at' l p)).3, AV.w64 (Sl.e (at' l p)).4, AV.int IntKind.i64 (Sl.e (at' l p)).5, AV.int IntKind.i64 (Sl.e (at' l p)).6]] ∧ List.length (ensS (List.take p l)) ≤ List.length (F (ensS (List.take p l)))) ∧ List.take (List.length (ensS (List.take p l))) (F (ensS (List.take p l))) ++ [AV.agg [AV.w64 (Sl.e (at' l p)).1, AV.w64 (Sl.e (at' l p)).2, AV.w64 (Sl.e (at' l p)).3, AV.w64 (Sl.e (at' l p)).4, AV.int IntKind.i64 (Sl.e (at' l p)).5, AV.int IntKind.i64 (Sl.e (at' l p)).6]] = F (ensS (List.take (p + (1 : Nat)) l)) ∧ inRange IntKind.i64 ((↑p : Int) + (1 : Int)) ∧ ∃ (p' : Nat), St.mk [AV.vsl 0 0 (List.length (List.map slE l)), .any, .any, AV.vsl ((0 : Nat) + (1 : Nat)) 0 (List.length (ensS (List.take p l)) + (1 : Nat)), AV.int IntKind.i64 ((↑p : Int) + (1 : Int)), .any, .any, .any, .any, .any, .any, .any, .any, .any, .any, .any, .any, .any, .any, .any, .any, .any, .any, .any, .any] [some (Blk.mk false (71 : TypeId) 7 true (List.map slE l)), some (Blk.mk true 43 6 true (F (ensS (List.take (p + (1 : Nat)) l))))] = enSt F l p' ∧ Nat.le p' (List.length l) ∧ List.length l + (1 : Nat) - p' < List.length l + (1 : Nat) - p) ∧ ((at' l p).1 = false → inRange IntKind.i64 ((↑p : Int) + (1 : Int)) ∧ ∃ (p' : Nat), St.mk [AV.vsl 0 0 (List.length (List.map slE l)), .any, .any, AV.vsl ((0 : Nat) + (1 : Nat)) 0 (List.length (ensS (List.take p l))), AV.int IntKind.i64 ((↑p : Int) + (1 : Int)), .any, .any, .any, .any, .any, .any, .any, .any, .any, .any, .any, .any, .any, .any, .any, .any, .any, .any, .any, .any] [some (Blk.mk false (71 : TypeId) 7 true (List.map slE l)), some (Blk.mk true (43 : TypeId) 6 true (F (ensS (List.take p l))))] = enSt F l p' ∧ Nat.le p' (List.length l) ∧ List.length l + (1 : Nat) - p' < List.length l + (1 : Nat) - p)) ∧ (Decidable.decide ((↑p : Int) < (↑(List.length (List.map slE l)) : Int)) = false → List.length (ensS (List.take p l)) = List.length es ∧ some (Blk.mk true (43 : TypeId) 6 true (F (ensS (List.take p l)))) = some (Blk.mk true (43 : TypeId) 6 true es))) := by kernel_rfl

theorem rentries8_ok : SpecOK Try.prog 19 (genSpec [pRefS] rentries8F) := by
  refine genSpec_ok none_ok fun l R hF => ?_
  unfold rentries8F at hF
  split at hF
  · rename_i r_l
    obtain ⟨hr_l, hl, hF⟩ := hF
    generalize deS r_l = l at hr_l hl hF
    subst hr_l
    refine ⟨_, hF, trivial, (enH (List.map enE) l), ?_⟩
    show run [] Try.prog _ [.vsl 0 0 (l.map slE).length] [some ⟨false, (pRefS.getD (0, 0)).1, (pRefS.getD (0, 0)).2, true, (l.map slE)⟩] _ _
    rw [rentries8_run]
    have hle : ∀ q, (ensS (l.take q)).length ≤ 1000000 := fun q => by have := ensS_length (l.take q); rw [List.length_take] at this; omega
    refine ⟨⟨rfl, Nat.zero_le _⟩, ?_⟩
    intro p (hp : p ≤ l.length)
    refine ⟨fun hlt => ?_, fun hge => ?_⟩
    · have hlt : p < l.length := by simp only [decide_eq_true_eq, List.length_map] at hlt; omega
      have B : 0 ≤ (p : Int) ∧ (p : Int) < ((l.map slE).length : Int) := by rw [List.length_map]; omega
      have e : ensS (l.take (p + 1)) = if (at' l p).ok then ensS (l.take p) ++ [(at' l p).e] else ensS (l.take p) := by rw [take_one hlt, ensS_snoc]
      refine ⟨B, read_rows B.1 B.2 (sl_ok _), fun ho => ?_, fun ho => ?_⟩
      · rw [ho, if_pos rfl] at e
        have := hle p
        refine ⟨B, read_rows B.1 B.2 (rsl_entry _), ⟨by omega, by omega, by simp, by rw [List.length_map]; exact Nat.le_refl _⟩, ?_, inR (by omega) (by omega), p + 1, ?_, hlt, by omega⟩
        · rw [List.take_of_length_le (by rw [List.length_map]; exact Nat.le_refl _), e, List.map_append]
          rfl
        · unfold enSt
          rw [e, List.length_append]
          rfl
      · rw [ho] at e
        refine ⟨inR (by omega) (by omega), p + 1, ?_, hlt, by omega⟩
        unfold enSt
        rw [e]; rfl
    · have hp : p = l.length := by simp only [decide_eq_false_iff_not, List.length_map] at hge; omega
      subst hp
      rw [List.take_length, List.length_map]
      exact ⟨rfl, rfl⟩
  · exact hF.elim


end Go.Proofs.Ytmkppicnbjoijaa.L1
end

section
/-
  Layer 8: contracts of the law's One, Of, Writes, Same.
-/
namespace Go.Proofs.Ytmkppicnbjoijaa.L1
open Go.Sx Go.Sx.M

def of8St (F : List Sl → List AV) (l : List Sl) (p : Nat) : St :=
  ⟨[.any, .any, .any, .vsl 1 0 p, .any, .any, .vsl 0 0 (l.map slE).length, .int .i64 (l.map slE).length, .int .i64 p, .any, .any, .any, .any, .any, .any, .any, .any, .any, .any], [some ⟨false, 61, 7, true, l.map slE⟩, some ⟨true, 71, 7, true, F (l.take p)⟩]⟩
def of8M0 : Modes := ⟨[0, 0, 0, 1, 0, 0, 1, 1, 2, 0, 0, 0, 0, 0, 0, 0, 0, 0, 0], [], [], [], [(3, 71, 7)]⟩
def of8M : Modes := ⟨[0, 0, 0, 1, 0, 0, 1, 1, 1, 0, 0, 0, 0, 0, 0, 0, 0, 0, 0], [], [], [], []⟩
def of8H (F : List Sl → List AV) (l : List Sl) : List Hint := [.linv _ 0 (of8St F l) (fun p => p ≤ l.length) (fun p => l.length + 1 - p) of8M0 of8M of8M (fun _ => []) fun p =>
  [.fork [.dy, .cell (slE (at' l p)), .rows (F (l.take (p + 1))), .nw] []]]

def ws8St (F : List Wr → List AV) (l : List Wr) (p : Nat) : St :=
  ⟨[.any, .any, .any, .vsl 1 0 p, .any, .any, .vsl 0 0 (l.map wrE).length, .int .i64 (l.map wrE).length, .int .i64 p, .any, .any, .any, .any, .any, .any, .any, .any, .any, .any, .any, .any, .any, .any], [some ⟨false, 64, 8, true, l.map wrE⟩, some ⟨true, 81, 8, true, F (l.take p)⟩]⟩
def ws8M0 : Modes := ⟨[0, 0, 0, 1, 0, 0, 1, 1, 2, 0, 0, 0, 0, 0, 0, 0, 0, 0, 0, 0, 0, 0, 0], [], [], [], [(3, 81, 8)]⟩
def ws8M : Modes := ⟨[0, 0, 0, 1, 0, 0, 1, 1, 1, 0, 0, 0, 0, 0, 0, 0, 0, 0, 0, 0, 0, 0, 0], [], [], [], []⟩
def ws8H (F : List Wr → List AV) (l : List Wr) : List Hint := [.linv _ 0 (ws8St F l) (fun p => p ≤ l.length) (fun p => l.length + 1 - p) ws8M0 ws8M ws8M (fun _ => []) fun p =>
  [.fork [.dy, .cell (wrE (at' l p)), .rows (F (l.take (p + 1))), .nw] []]]

def sm8St (l m : List Sl) (p : Nat) : St :=
  ⟨[.vsl 0 0 (l.map slE).length, .vsl 1 0 (m.map slE).length, .any, .any, .any, .any, .any, .any, .any, .any, .any, .any, .int .i64 (l.map slE).length, .int .i64 p, .any, .any, .any, .any, .any, .any, .any, .any, .any, .any, .any, .any, .any], [some ⟨false, 61, 7, true, l.map slE⟩, some ⟨false, 71, 7, true, m.map slE⟩]⟩
def sm8M0 : Modes := ⟨[1, 1, 0, 0, 0, 0, 0, 0, 0, 0, 0, 0, 1, 2, 0, 0, 0, 0, 0, 0, 0, 0, 0, 0, 0, 0, 0], [], [], [], []⟩
def sm8M : Modes := ⟨[1, 1, 0, 0, 0, 0, 0, 0, 0, 0, 0, 0, 1, 1, 0, 0, 0, 0, 0, 0, 0, 0, 0, 0, 0, 0, 0], [], [], [], []⟩
def sm8M' : Modes := ⟨[0, 0, 0, 0, 2, 0, 0, 0, 0, 0, 0, 0, 0, 0, 0, 0, 0, 0, 0, 0, 0, 0, 0, 0, 0, 0, 0], [], [], [], []⟩
def sm8I (l m : List Sl) (p : Nat) : Prop := p ≤ l.length ∧ ∀ j, j < p → at' l j = at' m j
def sm8H (l m : List Sl) : List Hint := [.fork [] [.linv _ 0 (sm8St l m) (sm8I l m) (fun p => l.length + 1 - p) sm8M0 sm8M sm8M' (fun _ => []) fun p =>
  [.fork [.dy, .cell (slE (at' l p)), .dy, .cell (slE (at' m p)), .fork [] [.nw]] []]]]

def one8F : List Arg → (Res → Prop) → Prop
  | [.v (.agg [.bool o, .w64 v, .w64 w, .w64 m, .w64 n, .int .i64 k, .int .i64 j])], R => R (.v (.agg [.bool o, .w64 v, .w64 w, .w64 m, .w64 n, .int .i64 k, .int .i64 j]))
  | _, _ => False

noncomputable def one8Cs : List (FuncId × Sx.Spec) := [(13, genSpec [none] one5F)]

theorem one8_run (o : Bool) (v w m n : BitVec 64) (k j : Int) (r : AV) : run one8Cs Try.prog 32 [.agg [.bool o, .w64 v, .w64 w, .w64 m, .w64 n, .int .i64 k, .int .i64 j]] [] [] (yields (.v r)) =
    (AV.agg [AV.bool o, AV.w64 v, AV.w64 w, AV.w64 m, AV.w64 n, AV.int IntKind.i64 k, AV.int IntKind.i64 j] = r) := by kernel_rfl

theorem one8Cs_ok : ∀ e ∈ one8Cs, SpecOK Try.prog e.1 e.2 := by
  intro e he
  simp only [one8Cs, List.mem_cons, List.not_mem_nil, or_false] at he
  rcases he with rfl
  · exact one5_ok

theorem one8_ok : SpecOK Try.prog 32 (genSpec [none] one8F) := by
  refine genSpec_ok (run_ok (l := one8Cs) one8Cs_ok mixed noNG) fun l R hF => ?_
  unfold one8F at hF
  split at hF
  · rename_i o v w m n k j
    refine ⟨_, hF, rfl, [], ?_⟩
    show run one8Cs Try.prog _ [.agg [.bool o, .w64 v, .w64 w, .w64 m, .w64 n, .int .i64 k, .int .i64 j]] [] _ _
    rw [one8_run]
    all_goals rfl
  · exact hF.elim


def of8F : List Arg → (Res → Prop) → Prop
  | [.row r_l], R => r_l = (deS r_l).map slE ∧ (deS r_l).length ≤ 1000000 ∧ R (.vrow 71 7 ((deS r_l).map slE))
  | _, _ => False

noncomputable def of8Cs : List (FuncId × Sx.Spec) := [(32, genSpec [none] one8F)]

theorem of8_run (l : List Sl) (F : List Sl → List AV) (es : List AV) : run of8Cs Try.prog 10 [.vsl 0 0 (l.map slE).length] [some ⟨false, (pSl.getD (0, 0)).1, (pSl.getD (0, 0)).2, true, (l.map slE)⟩] (of8H F l) (yields (.vrow 71 7 es)) =
    ((St.mk [.any, .any, .any, AV.vsl (List.length [some (Blk.mk false (61 : TypeId) 7 true (List.map slE l))]) 0 0, .any, .any, AV.vsl 0 0 (List.length (List.map slE l)), AV.int IntKind.i64 (↑(List.length (List.map slE l)) : Int), AV.int IntKind.i64 0, .any, .any, .any, .any, .any, .any, .any, .any, .any, .any] ([some (Blk.mk false (61 : TypeId) 7 true (List.map slE l))] ++ [some (Blk.mk true (71 : TypeId) 7 true [])]) = of8St F l 0 ∧ Nat.le 0 (List.length l)) ∧ ∀ (p : Nat), Nat.le p (List.length l) → (Decidable.decide ((↑p : Int) < (↑(List.length (List.map slE l)) : Int)) = true → ((0 : Int) ≤ (↑p : Int) ∧ (↑p : Int) < (↑(List.length (List.map slE l)) : Int)) ∧ Blk.read Proofs.Try.prog (Blk.mk false (61 : TypeId) 7 true (List.map slE l)) 61 ((0 : Nat) + Int.toNat (↑p : Int)) 0 = some (AV.agg [AV.bool (at' l p).1, AV.w64 (Sl.e (at' l p)).1, AV.w64 (Sl.e (at' l p)).2, AV.w64 (Sl.e (at' l p)).3, AV.w64 (Sl.e (at' l p)).4, AV.int IntKind.i64 (Sl.e (at' l p)).5, AV.int IntKind.i64 (Sl.e (at' l p)).6]) ∧ ((p + (1 : Nat)) * (56 : Nat) ≤ (140737488355328 : Nat) ∧ p + (1 : Nat) ≤ (9223372036854775807 : Nat) ∧ (0 : Nat) + (1 : Nat) ≤ List.length [AV.agg [AV.bool (at' l p).1, AV.w64 (Sl.e (at' l p)).1, AV.w64 (Sl.e (at' l p)).2, AV.w64 (Sl.e (at' l p)).3, AV.w64 (Sl.e (at' l p)).4, AV.int IntKind.i64 (Sl.e (at' l p)).5, AV.int IntKind.i64 (Sl.e (at' l p)).6]] ∧ p ≤ List.length (F (List.take p l))) ∧ List.take p (F (List.take p l)) ++ [AV.agg [AV.bool (at' l p).1, AV.w64 (Sl.e (at' l p)).1, AV.w64 (Sl.e (at' l p)).2, AV.w64 (Sl.e (at' l p)).3, AV.w64 (Sl.e (at' l p)).4, AV.int IntKind.i64 (Sl.e (at' l p)).5, AV.int IntKind.i64 (Sl.e (at' l p)).6]] = F (List.take (p + (1 : Nat)) l) ∧ inRange IntKind.i64 ((↑p : Int) + (1 : Int)) ∧ ∃ (p' : Nat), St.mk [.any, .any, .any, AV.vsl ((0 : Nat) + (1 : Nat)) 0 (p + (1 : Nat)), .any, .any, AV.vsl 0 0 (List.length (List.map slE l)), AV.int IntKind.i64 (↑(List.length (List.map slE l)) : Int), AV.int IntKind.i64 ((↑p : Int) + (1 : Int)), .any, .any, .any, .any, .any, .any, .any, .any, .any, .any] [some (Blk.mk false (61 : TypeId) 7 true (List.map slE l)), some (Blk.mk true 71 7 true (F (List.take (p + (1 : Nat)) l)))] = of8St F l p' ∧ Nat.le p' (List.length l) ∧ List.length l + (1 : Nat) - p' < List.length l + (1 : Nat) - p) ∧ (Decidable.decide ((↑p : Int) < (↑(List.length (List.map slE l)) : Int)) = false → p = List.length es ∧ some (Blk.mk true (71 : TypeId) 7 true (F (List.take p l))) = some (Blk.mk true (71 : TypeId) 7 true es))) := by kernel_rfl

theorem of8Cs_ok : ∀ e ∈ of8Cs, SpecOK Try.prog e.1 e.2 := by
  intro e he
  simp only [of8Cs, List.mem_cons, List.not_mem_nil, or_false] at he
  rcases he with rfl
  · exact one8_ok

theorem of8_ok : SpecOK Try.prog 10 (genSpec [pSl] of8F) := by
  refine genSpec_ok (run_ok (l := of8Cs) of8Cs_ok mixed noNG) fun l R hF => ?_
  unfold of8F at hF
  split at hF
  · rename_i r_l
    obtain ⟨hr_l, hl, hF⟩ := hF
    generalize deS r_l = l at hr_l hl hF
    subst hr_l
    refine ⟨_, hF, trivial, (of8H (List.map slE) l), ?_⟩
    show run of8Cs Try.prog _ [.vsl 0 0 (l.map slE).length] [some ⟨false, (pSl.getD (0, 0)).1, (pSl.getD (0, 0)).2, true, (l.map slE)⟩] _ _
    rw [of8_run]
    have lt : ∀ p, p ≤ l.length → ((l.take p).map slE).length = p := fun p hp => by rw [List.length_map, List.length_take]; omega
    refine ⟨⟨rfl, Nat.zero_le _⟩, ?_⟩
    intro p (hp : p ≤ l.length)
    refine ⟨fun hlt => ?_, fun hge => ?_⟩
    · have hlt : p < l.length := by simp only [decide_eq_true_eq, List.length_map] at hlt; omega
      have B : 0 ≤ (p : Int) ∧ (p : Int) < ((l.map slE).length : Int) := by rw [List.length_map]; omega
      refine ⟨B, read_rows B.1 B.2 (sl_whole _), ⟨by omega, by omega, by simp, by rw [lt p hp]; omega⟩, ?_, inR (by omega) (by omega), p + 1, rfl, hlt, by omega⟩
      rw [List.take_of_length_le (by rw [lt p hp]; omega), List.take_add_one, at_get hlt, List.map_append]
      rfl
    · have hp : p = l.length := by simp only [decide_eq_false_iff_not, List.length_map] at hge; omega
      subst hp
      rw [List.take_length, List.length_map]
      exact ⟨rfl, rfl⟩
  · exact hF.elim


def writes8F : List Arg → (Res → Prop) → Prop
  | [.row r_l], R => r_l = (deW r_l).map wrE ∧ (deW r_l).length ≤ 1000000 ∧ R (.vrow 81 8 ((deW r_l).map wrE))
  | _, _ => False

noncomputable def writes8Cs : List (FuncId × Sx.Spec) := [(32, genSpec [none] one8F)]

theorem writes8_run (l : List Wr) (F : List Wr → List AV) (es : List AV) : run writes8Cs Try.prog 41 [.vsl 0 0 (l.map wrE).length] [some ⟨false, (pWr.getD (0, 0)).1, (pWr.getD (0, 0)).2, true, (l.map wrE)⟩] (ws8H F l) (yields (.vrow 81 8 es)) =
    ((St.mk [.any, .any, .any, AV.vsl (List.length [some (Blk.mk false (64 : TypeId) 8 true (List.map wrE l))]) 0 0, .any, .any, AV.vsl 0 0 (List.length (List.map wrE l)), AV.int IntKind.i64 (↑(List.length (List.map wrE l)) : Int), AV.int IntKind.i64 0, .any, .any, .any, .any, .any, .any, .any, .any, .any, .any, .any, .any, .any, .any] ([some (Blk.mk false (64 : TypeId) 8 true (List.map wrE l))] ++ [some (Blk.mk true (81 : TypeId) 8 true [])]) = ws8St F l 0 ∧ Nat.le 0 (List.length l)) ∧ ∀ (p : Nat), Nat.le p (List.length l) → (Decidable.decide ((↑p : Int) < (↑(List.length (List.map wrE l)) : Int)) = true → ((0 : Int) ≤ (↑p : Int) ∧ (↑p : Int) < (↑(List.length (List.map wrE l)) : Int)) ∧ Blk.read Proofs.Try.prog (Blk.mk false (64 : TypeId) 8 true (List.map wrE l)) 64 ((0 : Nat) + Int.toNat (↑p : Int)) 0 = some (AV.agg [AV.int IntKind.i64 (at' l p).1, AV.bool (Wr.s (at' l p)).1, AV.w64 (Sl.e (Wr.s (at' l p))).1, AV.w64 (Sl.e (Wr.s (at' l p))).2, AV.w64 (Sl.e (Wr.s (at' l p))).3, AV.w64 (Sl.e (Wr.s (at' l p))).4, AV.int IntKind.i64 (Sl.e (Wr.s (at' l p))).5, AV.int IntKind.i64 (Sl.e (Wr.s (at' l p))).6]) ∧ ((p + (1 : Nat)) * (64 : Nat) ≤ (140737488355328 : Nat) ∧ p + (1 : Nat) ≤ (9223372036854775807 : Nat) ∧ (0 : Nat) + (1 : Nat) ≤ List.length [AV.agg [AV.int IntKind.i64 (at' l p).1, AV.bool (Wr.s (at' l p)).1, AV.w64 (Sl.e (Wr.s (at' l p))).1, AV.w64 (Sl.e (Wr.s (at' l p))).2, AV.w64 (Sl.e (Wr.s (at' l p))).3, AV.w64 (Sl.e (Wr.s (at' l p))).4, AV.int IntKind.i64 (Sl.e (Wr.s (at' l p))).5, AV.int IntKind.i64 (Sl.e (Wr.s (at' l p))).6]] ∧ p ≤ List.length (F (List.take p l))) ∧ List.take p (F (List.take p l)) ++ [AV.agg [AV.int IntKind.i64 (at' l p).1, AV.bool (Wr.s (at' l p)).1, AV.w64 (Sl.e (Wr.s (at' l p))).1, AV.w64 (Sl.e (Wr.s (at' l p))).2, AV.w64 (Sl.e (Wr.s (at' l p))).3, AV.w64 (Sl.e (Wr.s (at' l p))).4, AV.int IntKind.i64 (Sl.e (Wr.s (at' l p))).5, AV.int IntKind.i64 (Sl.e (Wr.s (at' l p))).6]] = F (List.take (p + (1 : Nat)) l) ∧ inRange IntKind.i64 ((↑p : Int) + (1 : Int)) ∧ ∃ (p' : Nat), St.mk [.any, .any, .any, AV.vsl ((0 : Nat) + (1 : Nat)) 0 (p + (1 : Nat)), .any, .any, AV.vsl 0 0 (List.length (List.map wrE l)), AV.int IntKind.i64 (↑(List.length (List.map wrE l)) : Int), AV.int IntKind.i64 ((↑p : Int) + (1 : Int)), .any, .any, .any, .any, .any, .any, .any, .any, .any, .any, .any, .any, .any, .any] [some (Blk.mk false (64 : TypeId) 8 true (List.map wrE l)), some (Blk.mk true 81 8 true (F (List.take (p + (1 : Nat)) l)))] = ws8St F l p' ∧ Nat.le p' (List.length l) ∧ List.length l + (1 : Nat) - p' < List.length l + (1 : Nat) - p) ∧ (Decidable.decide ((↑p : Int) < (↑(List.length (List.map wrE l)) : Int)) = false → p = List.length es ∧ some (Blk.mk true (81 : TypeId) 8 true (F (List.take p l))) = some (Blk.mk true (81 : TypeId) 8 true es))) := by kernel_rfl

theorem writes8Cs_ok : ∀ e ∈ writes8Cs, SpecOK Try.prog e.1 e.2 := by
  intro e he
  simp only [writes8Cs, List.mem_cons, List.not_mem_nil, or_false] at he
  rcases he with rfl
  · exact one8_ok

theorem writes8_ok : SpecOK Try.prog 41 (genSpec [pWr] writes8F) := by
  refine genSpec_ok (run_ok (l := writes8Cs) writes8Cs_ok mixed noNG) fun l R hF => ?_
  unfold writes8F at hF
  split at hF
  · rename_i r_l
    obtain ⟨hr_l, hl, hF⟩ := hF
    generalize deW r_l = l at hr_l hl hF
    subst hr_l
    refine ⟨_, hF, trivial, (ws8H (List.map wrE) l), ?_⟩
    show run writes8Cs Try.prog _ [.vsl 0 0 (l.map wrE).length] [some ⟨false, (pWr.getD (0, 0)).1, (pWr.getD (0, 0)).2, true, (l.map wrE)⟩] _ _
    rw [writes8_run]
    have lt : ∀ p, p ≤ l.length → ((l.take p).map wrE).length = p := fun p hp => by rw [List.length_map, List.length_take]; omega
    refine ⟨⟨rfl, Nat.zero_le _⟩, ?_⟩
    intro p (hp : p ≤ l.length)
    refine ⟨fun hlt => ?_, fun hge => ?_⟩
    · have hlt : p < l.length := by simp only [decide_eq_true_eq, List.length_map] at hlt; omega
      have B : 0 ≤ (p : Int) ∧ (p : Int) < ((l.map wrE).length : Int) := by rw [List.length_map]; omega
      refine ⟨B, read_rows B.1 B.2 (wr_whole _), ⟨by omega, by omega, by simp, by rw [lt p hp]; omega⟩, ?_, inR (by omega) (by omega), p + 1, rfl, hlt, by omega⟩
      rw [List.take_of_length_le (by rw [lt p hp]; omega), List.take_add_one, at_get hlt, List.map_append]
      rfl
    · have hp : p = l.length := by simp only [decide_eq_false_iff_not, List.length_map] at hge; omega
      subst hp
      rw [List.take_length, List.length_map]
      exact ⟨rfl, rfl⟩
  · exact hF.elim


def same8F : List Arg → (Res → Prop) → Prop
  | [.row r_l, .row r_m], R => r_l = (deS r_l).map slE ∧ (deS r_l).length ≤ 9223372036854775807 ∧ r_m = (deS r_m).map slE ∧ (deS r_m).length ≤ 9223372036854775807 ∧ R (.v (.bool (decide ((deS r_l) = (deS r_m)))))
  | _, _ => False

noncomputable def same8Cs : List (FuncId × Sx.Spec) := [(32, genSpec [none] one8F)]

theorem same8_run (l m : List Sl) (r : AV) : run same8Cs Try.prog 15 [.vsl 0 0 (l.map slE).length, .vsl 1 0 (m.map slE).length] [some ⟨false, (pSl.getD (0, 0)).1, (pSl.getD (0, 0)).2, true, (l.map slE)⟩, some ⟨false, (pRefS.getD (0, 0)).1, (pRefS.getD (0, 0)).2, true, (m.map slE)⟩] (sm8H l m) (yields (.v r)) =
    ((((↑(List.length (List.map slE l)) : Int) != (↑(List.length (List.map slE m)) : Int)) = true → AV.bool false = r) ∧ (((↑(List.length (List.map slE l)) : Int) != (↑(List.length (List.map slE m)) : Int)) = false → (St.mk [AV.vsl 0 0 (List.length (List.map slE l)), AV.vsl ((0 : Nat) + (1 : Nat)) 0 (List.length (List.map slE m)), .any, .any, .any, .any, .any, .any, .any, .any, .any, .any, AV.int IntKind.i64 (↑(List.length (List.map slE l)) : Int), AV.int IntKind.i64 0, .any, .any, .any, .any, .any, .any, .any, .any, .any, .any, .any, .any, .any] [some (Blk.mk false (61 : TypeId) 7 true (List.map slE l)), some (Blk.mk false (71 : TypeId) 7 true (List.map slE m))] = sm8St l m 0 ∧ sm8I l m 0) ∧ ∀ (p : Nat), sm8I l m p → (Decidable.decide ((↑p : Int) < (↑(List.length (List.map slE l)) : Int)) = true → ((0 : Int) ≤ (↑p : Int) ∧ (↑p : Int) < (↑(List.length (List.map slE l)) : Int)) ∧ Blk.read Proofs.Try.prog (Blk.mk false (61 : TypeId) 7 true (List.map slE l)) 61 ((0 : Nat) + Int.toNat (↑p : Int)) 0 = some (AV.agg [AV.bool (at' l p).1, AV.w64 (Sl.e (at' l p)).1, AV.w64 (Sl.e (at' l p)).2, AV.w64 (Sl.e (at' l p)).3, AV.w64 (Sl.e (at' l p)).4, AV.int IntKind.i64 (Sl.e (at' l p)).5, AV.int IntKind.i64 (Sl.e (at' l p)).6]) ∧ ((0 : Int) ≤ (↑p : Int) ∧ (↑p : Int) < (↑(List.length (List.map slE m)) : Int)) ∧ Blk.read Proofs.Try.prog (Blk.mk false (71 : TypeId) 7 true (List.map slE m)) 71 ((0 : Nat) + Int.toNat (↑p : Int)) 0 = some (AV.agg [AV.bool (at' m p).1, AV.w64 (Sl.e (at' m p)).1, AV.w64 (Sl.e (at' m p)).2, AV.w64 (Sl.e (at' m p)).3, AV.w64 (Sl.e (at' m p)).4, AV.int IntKind.i64 (Sl.e (at' m p)).5, AV.int IntKind.i64 (Sl.e (at' m p)).6]) ∧ ((!((at' l p).1 == (at' m p).1 && ((Sl.e (at' l p)).1 == (Sl.e (at' m p)).1 && (Sl.e (at' l p)).2 == (Sl.e (at' m p)).2 && ((Sl.e (at' l p)).3 == (Sl.e (at' m p)).3 && (Sl.e (at' l p)).4 == (Sl.e (at' m p)).4) && ((Sl.e (at' l p)).5 == (Sl.e (at' m p)).5 && (Sl.e (at' l p)).6 == (Sl.e (at' m p)).6)))) = true → AV.bool false = r) ∧ ((!((at' l p).1 == (at' m p).1 && ((Sl.e (at' l p)).1 == (Sl.e (at' m p)).1 && (Sl.e (at' l p)).2 == (Sl.e (at' m p)).2 && ((Sl.e (at' l p)).3 == (Sl.e (at' m p)).3 && (Sl.e (at' l p)).4 == (Sl.e (at' m p)).4) && ((Sl.e (at' l p)).5 == (Sl.e (at' m p)).5 && (Sl.e (at' l p)).6 == (Sl.e (at' m p)).6)))) = false → inRange IntKind.i64 ((↑p : Int) + (1 : Int)) ∧ ∃ (p' : Nat), St.mk [AV.vsl 0 0 (List.length (List.map slE l)), AV.vsl ((0 : Nat) + (1 : Nat)) 0 (List.length (List.map slE m)), .any, .any, .any, .any, .any, .any, .any, .any, .any, .any, AV.int IntKind.i64 (↑(List.length (List.map slE l)) : Int), AV.int IntKind.i64 ((↑p : Int) + (1 : Int)), .any, .any, .any, .any, .any, .any, .any, .any, .any, .any, .any, .any, .any] [some (Blk.mk false (61 : TypeId) 7 true (List.map slE l)), some (Blk.mk false (71 : TypeId) 7 true (List.map slE m))] = sm8St l m p' ∧ sm8I l m p' ∧ List.length l + (1 : Nat) - p' < List.length l + (1 : Nat) - p)) ∧ (Decidable.decide ((↑p : Int) < (↑(List.length (List.map slE l)) : Int)) = false → AV.bool true = r))) := by kernel_rfl

theorem same8Cs_ok : ∀ e ∈ same8Cs, SpecOK Try.prog e.1 e.2 := by
  intro e he
  simp only [same8Cs, List.mem_cons, List.not_mem_nil, or_false] at he
  rcases he with rfl
  · exact one8_ok

theorem same8_ok : SpecOK Try.prog 15 (genSpec [pSl, pRefS] same8F) := by
  refine genSpec_ok (run_ok (l := same8Cs) same8Cs_ok mixed noNG) fun l R hF => ?_
  unfold same8F at hF
  split at hF
  · rename_i r_l r_m
    obtain ⟨hr_l, hl, hF⟩ := hF
    generalize deS r_l = l at hr_l hl hF
    subst hr_l
    obtain ⟨hr_m, hm, hF⟩ := hF
    generalize deS r_m = m at hr_m hm hF
    subst hr_m
    refine ⟨_, hF, rfl, (sm8H l m), ?_⟩
    show run same8Cs Try.prog _ [.vsl 0 0 (l.map slE).length, .vsl 1 0 (m.map slE).length] [some ⟨false, (pSl.getD (0, 0)).1, (pSl.getD (0, 0)).2, true, (l.map slE)⟩, some ⟨false, (pRefS.getD (0, 0)).1, (pRefS.getD (0, 0)).2, true, (m.map slE)⟩] _ _
    rw [same8_run]
    simp only [eq_Sl]
    refine ⟨fun h => ?_, fun h => ⟨⟨rfl, Nat.zero_le _, fun j hj => by omega⟩, ?_⟩⟩
    · have h : l.length ≠ m.length := by simp at h; omega
      rw [decide_eq_false fun e => h (by rw [e])]
    · have h : l.length = m.length := by simp at h; omega
      rintro p ⟨h1, h2⟩
      refine ⟨fun hlt => ?_, fun hge => ?_⟩
      · have hp : p < l.length := by simp only [decide_eq_true_eq, List.length_map] at hlt; omega
        have B : 0 ≤ (p : Int) ∧ (p : Int) < ((l.map slE).length : Int) := by rw [List.length_map]; omega
        have B2 : 0 ≤ (p : Int) ∧ (p : Int) < ((m.map slE).length : Int) := by rw [List.length_map]; omega
        refine ⟨B, read_rows B.1 B.2 (sl_whole _), B2, read_rows B2.1 B2.2 (rsl_whole _), fun hne => ?_, fun he => ⟨inR (by omega) (by omega), p + 1, rfl, ⟨by omega, up h2 ?_⟩, by omega⟩⟩
        · have hne : at' l p ≠ at' m p := by simpa using hne
          rw [decide_eq_false fun e => hne (by rw [e])]
        · simpa using he
      · have hp : p = l.length := by simp only [decide_eq_false_iff_not, List.length_map] at hge; omega
        subst hp
        rw [decide_eq_true (ext_at h h2)]
  · exact hF.elim


end Go.Proofs.Ytmkppicnbjoijaa.L1
end

section
/-
  Layer 8: what the contracts of calls on slots say.
-/
namespace Go.Proofs.Ytmkppicnbjoijaa.L1
open Go.Sx Go.Sx.M

def gmay8F : List Arg → (Res → Prop) → Prop
  | [.v (.agg [.int .i64 p, .bool o, .w64 v, .w64 w, .w64 m, .w64 n, .int .i64 k, .int .i64 j]), .v (.int .i64 z)], R => R (.v (.bool (mayS ⟨p, ⟨o, ⟨v, w, m, n, k, j⟩⟩⟩ z)))
  | _, _ => False

def gapply8F : List Arg → (Res → Prop) → Prop
  | [.row r_l, .row r_w], R => r_l = (deS r_l).map slE ∧ (deS r_l).length ≤ 1000000 ∧ r_w = (deW r_w).map wrE ∧ (deW r_w).length ≤ 1000000 ∧ R (.vrow 61 7 ((apL (deS r_l) (deW r_w)).map slE))
  | _, _ => False

def gentries8F : List Arg → (Res → Prop) → Prop
  | [.row r_l], R => r_l = (deS r_l).map slE ∧ (deS r_l).length ≤ 1000000 ∧ R (.vrow 29 6 ((ensS (deS r_l)).map enE))
  | _, _ => False

def gfree8F : List Arg → (Res → Prop) → Prop
  | [.row r_l], R => r_l = (deS r_l).map slE ∧ (deS r_l).length ≤ 9223372036854775807 ∧ R (.v (.int .i64 (frS (deS r_l))))
  | _, _ => False

end Go.Proofs.Ytmkppicnbjoijaa.L1
end

section
/-
  Layer 8: contracts of the program's calls: May, the search, Tell, Free, Entries, Apply.
-/
namespace Go.Proofs.Ytmkppicnbjoijaa.L1
open Go.Sx Go.Sx.M

def find8F : List Arg → (Res → Prop) → Prop
  | [.row r_l, .v (.agg [.w64 a, .w64 b])], R => r_l = (deS r_l).map slE ∧ (deS r_l).length ≤ 9223372036854775807 ∧ R (.v (.tuple [.int .i64 (mx0 (fnS (deS r_l) a b)), .bool (decide (fnS (deS r_l) a b ≥ 0))]))
  | _, _ => False

def clone8F : List Arg → (Res → Prop) → Prop
  | [.row r_l], R => r_l = (deS r_l).map slE ∧ (deS r_l).length ≤ 1000000 ∧ R (.vrow 61 7 ((deS r_l).map slE))
  | _, _ => False

/-- Free. -/
def gcSt (l : List Sl) (p : Nat) : St :=
  ⟨[.any, .any, .any, .int .i64 (frS (l.take p)), .any, .any, .vsl 0 0 (l.map slE).length, .int .i64 (l.map slE).length, .int .i64 p, .any, .any, .any, .any, .any, .any, .any, .any, .any, .any], [some ⟨false, 61, 7, true, l.map slE⟩]⟩
def gcM0 : Modes := ⟨[0, 0, 0, 2, 0, 0, 1, 1, 2, 0, 0, 0, 0, 0, 0, 0, 0, 0, 0], [], [], [], []⟩
def gcM : Modes := ⟨[0, 0, 0, 1, 0, 0, 1, 1, 1, 0, 0, 0, 0, 0, 0, 0, 0, 0, 0], [], [], [], []⟩
def gcM' : Modes := ⟨[0, 0, 0, 1, 0, 0, 0, 0, 0, 0, 0, 0, 0, 0, 0, 0, 0, 0, 0], [], [], [], []⟩
def gcH (l : List Sl) : List Hint := [.linv _ 0 (gcSt l) (fun p => p ≤ l.length) (fun p => l.length + 1 - p) gcM0 gcM gcM' (fun _ => []) fun p =>
  [.fork [.dy, .cell (slE (at' l p)), .fork [.nw, .nw] [.nw]] []]]

/-- Entries. -/
def gnSt (F : List En → List AV) (l : List Sl) (p : Nat) : St :=
  ⟨[.any, .any, .any, .vsl 1 0 (ensS (l.take p)).length, .any, .any, .vsl 0 0 (l.map slE).length, .int .i64 (l.map slE).length, .int .i64 p, .any, .any, .any, .any, .any, .any, .any, .any, .any, .any, .any, .any], [some ⟨false, 61, 7, true, l.map slE⟩, some ⟨true, 29, 6, true, F (ensS (l.take p))⟩]⟩
def gnM0 : Modes := ⟨[0, 0, 0, 1, 0, 0, 1, 1, 2, 0, 0, 0, 0, 0, 0, 0, 0, 0, 0, 0, 0], [], [], [], [(3, 29, 6)]⟩
def gnM : Modes := ⟨[0, 0, 0, 1, 0, 0, 1, 1, 1, 0, 0, 0, 0, 0, 0, 0, 0, 0, 0, 0, 0], [], [], [], []⟩
def gnM' : Modes := ⟨[0, 0, 0, 1, 0, 0, 0, 0, 0, 0, 0, 0, 0, 0, 0, 0, 0, 0, 0, 0, 0], [], [], [], []⟩
def gnH (F : List En → List AV) (l : List Sl) : List Hint := [.linv _ 0 (gnSt F l) (fun p => p ≤ l.length) (fun p => l.length + 1 - p) gnM0 gnM gnM' (fun _ => []) fun p =>
  [.fork [.dy, .cell (slE (at' l p)), .fork [.rows (F (ensS (l.take (p + 1)))), .nw] [.nw]] []]]

/-- Apply. -/
def gaSt (F : List Sl → List AV) (l : List Sl) (w : List Wr) (p : Nat) : St :=
  ⟨[.any, .any, .any, .any, .any, .vsl 2 0 (F l).length, .any, .any, .any, .any, .vsl 1 0 (w.map wrE).length, .int .i64 (w.map wrE).length, .int .i64 p, .any, .any, .any, .any, .any, .any, .any, .any, .any, .any, .any, .any, .any, .any, .any], [some ⟨false, 61, 7, true, l.map slE⟩, some ⟨false, 64, 8, true, w.map wrE⟩, some ⟨true, 61, 7, true, F (apL l (w.take p))⟩]⟩
def gaM0 : Modes := ⟨[0, 0, 0, 0, 0, 1, 0, 0, 0, 0, 1, 1, 2, 0, 0, 0, 0, 0, 0, 0, 0, 0, 0, 0, 0, 0, 0, 0], [], [], [], []⟩
def gaM : Modes := ⟨[0, 0, 0, 0, 0, 1, 0, 0, 0, 0, 1, 1, 1, 0, 0, 0, 0, 0, 0, 0, 0, 0, 0, 0, 0, 0, 0, 0], [], [], [], []⟩
def gaM' : Modes := ⟨[0, 0, 0, 0, 0, 1, 0, 0, 0, 0, 0, 0, 0, 0, 0, 0, 0, 0, 0, 0, 0, 0, 0, 0, 0, 0, 0, 0], [], [], [], []⟩
def gaH (F : List Sl → List AV) (l : List Sl) (w : List Wr) : List Hint := [.nm (F l), .linv _ 0 (gaSt F l w) (fun p => p ≤ w.length) (fun p => w.length + 1 - p) gaM0 gaM gaM' (fun _ => []) fun p =>
  [.fork [.dy, .cell (wrE (at' w p)), .fork [.dy, .rows (F (apL l (w.take (p + 1)))), .nw] [.nw]] []]]

noncomputable def gmay8Cs : List (FuncId × Sx.Spec) := [(25, genSpec [none] erightF)]

theorem gmay8_run (p : Int) (o : Bool) (v w m n : BitVec 64) (k j z : Int) (r : AV) : run gmay8Cs Try.prog 48 [.agg [.int .i64 p, .bool o, .w64 v, .w64 w, .w64 m, .w64 n, .int .i64 k, .int .i64 j], .int .i64 z] [] [.fork [.fork [.fork [] [.fork [] []]] []] []] (yields (.v r)) =
    ((Decidable.decide ((0 : Int) ≤ p) = true → (Decidable.decide (p < z) = true → ((o == false && (v == BitVec.ofInt (64 : Nat) (0 : Int) && w == BitVec.ofInt (64 : Nat) (0 : Int) && (m == BitVec.ofInt (64 : Nat) (0 : Int) && n == BitVec.ofInt (64 : Nat) (0 : Int)) && (k == (0 : Int) && j == (0 : Int)))) = true → AV.bool true = r) ∧ ((o == false && (v == BitVec.ofInt (64 : Nat) (0 : Int) && w == BitVec.ofInt (64 : Nat) (0 : Int) && (m == BitVec.ofInt (64 : Nat) (0 : Int) && n == BitVec.ofInt (64 : Nat) (0 : Int)) && (k == (0 : Int) && j == (0 : Int)))) = false → (o = true → AV.bool (rtE (En.mk v w m n k j)) = r) ∧ (o = false → AV.bool false = r))) ∧ (Decidable.decide (p < z) = false → AV.bool false = r)) ∧ (Decidable.decide ((0 : Int) ≤ p) = false → AV.bool false = r)) := by kernel_rfl

theorem gmay8Cs_ok : ∀ e ∈ gmay8Cs, SpecOK Try.prog e.1 e.2 := by
  intro e he
  simp only [gmay8Cs, List.mem_cons, List.not_mem_nil, or_false] at he
  rcases he with rfl
  · exact eright_ok

theorem gmay8_ok : SpecOK Try.prog 48 (genSpec [none, none] gmay8F) := by
  refine genSpec_ok (run_ok (l := gmay8Cs) gmay8Cs_ok mixed noNG) fun l R hF => ?_
  unfold gmay8F at hF
  split at hF
  · rename_i p o v w m n k j z
    refine ⟨_, hF, rfl, [.fork [.fork [.fork [] [.fork [] []]] []] []], ?_⟩
    show run gmay8Cs Try.prog _ [.agg [.int .i64 p, .bool o, .w64 v, .w64 w, .w64 m, .w64 n, .int .i64 k, .int .i64 j], .int .i64 z] [] _ _
    rw [gmay8_run]
    have hs : ∀ {x : Bool}, rtS ⟨o, ⟨v, w, m, n, k, j⟩⟩ = x → (0 ≤ p ∧ p < z) → AV.bool x = .bool (mayS ⟨p, ⟨o, ⟨v, w, m, n, k, j⟩⟩⟩ z) := fun h h2 => by rw [mayS_in h2, h]
    have hn : ¬ (0 ≤ p ∧ p < z) → AV.bool false = .bool (mayS ⟨p, ⟨o, ⟨v, w, m, n, k, j⟩⟩⟩ z) := fun h => by rw [mayS_not h]
    rw [eq_zS]
    refine ⟨fun h => ⟨fun h1 => ?_, fun h1 => hn ?_⟩, fun h => hn ?_⟩
    · have h := of_decide_eq_true h
      have h1 := of_decide_eq_true h1
      refine ⟨fun h2 => hs ?_ ⟨h, h1⟩, fun h2 => ⟨fun h3 => hs ?_ ⟨h, h1⟩, fun h3 => hs ?_ ⟨h, h1⟩⟩⟩
      · unfold rtS; rw [h2]; rfl
      · unfold rtS; rw [h2, h3]; rfl
      · unfold rtS; rw [h2, h3]; rfl
    · have := of_decide_eq_false h1; omega
    · have := of_decide_eq_false h; omega
  · exact hF.elim


theorem gfree8_run (l : List Sl) (r : AV) : run [] Try.prog 24 [.vsl 0 0 (l.map slE).length] [some ⟨false, (pSl.getD (0, 0)).1, (pSl.getD (0, 0)).2, true, (l.map slE)⟩] (gcH l) (yields (.v r)) =
    ((St.mk [.any, .any, .any, AV.int IntKind.i64 0, .any, .any, AV.vsl 0 0 (List.length (List.map slE l)), AV.int IntKind.i64 (↑(List.length (List.map slE l)) : Int), AV.int IntKind.i64 0, .any, .any, .any, .any, .any, .any, .any, .any, .any, .any] [some (Blk.mk false (61 : TypeId) 7 true (List.map slE l))] = gcSt l 0 ∧ Nat.le 0 (List.length l)) ∧ ∀ (p : Nat), Nat.le p (List.length l) → (Decidable.decide ((↑p : Int) < (↑(List.length (List.map slE l)) : Int)) = true → ((0 : Int) ≤ (↑p : Int) ∧ (↑p : Int) < (↑(List.length (List.map slE l)) : Int)) ∧ Blk.read Proofs.Try.prog (Blk.mk false (61 : TypeId) 7 true (List.map slE l)) 61 ((0 : Nat) + Int.toNat (↑p : Int)) 0 = some (AV.agg [AV.bool (at' l p).1, AV.w64 (Sl.e (at' l p)).1, AV.w64 (Sl.e (at' l p)).2, AV.w64 (Sl.e (at' l p)).3, AV.w64 (Sl.e (at' l p)).4, AV.int IntKind.i64 (Sl.e (at' l p)).5, AV.int IntKind.i64 (Sl.e (at' l p)).6]) ∧ ((!(at' l p).1) = true → inRange IntKind.i64 (frS (List.take p l) + (1 : Int)) ∧ inRange IntKind.i64 ((↑p : Int) + (1 : Int)) ∧ ∃ (p' : Nat), St.mk [.any, .any, .any, AV.int IntKind.i64 (frS (List.take p l) + (1 : Int)), .any, .any, AV.vsl 0 0 (List.length (List.map slE l)), AV.int IntKind.i64 (↑(List.length (List.map slE l)) : Int), AV.int IntKind.i64 ((↑p : Int) + (1 : Int)), .any, .any, .any, .any, .any, .any, .any, .any, .any, .any] [some (Blk.mk false (61 : TypeId) 7 true (List.map slE l))] = gcSt l p' ∧ Nat.le p' (List.length l) ∧ List.length l + (1 : Nat) - p' < List.length l + (1 : Nat) - p) ∧ ((!(at' l p).1) = false → inRange IntKind.i64 ((↑p : Int) + (1 : Int)) ∧ ∃ (p' : Nat), St.mk [.any, .any, .any, AV.int IntKind.i64 (frS (List.take p l)), .any, .any, AV.vsl 0 0 (List.length (List.map slE l)), AV.int IntKind.i64 (↑(List.length (List.map slE l)) : Int), AV.int IntKind.i64 ((↑p : Int) + (1 : Int)), .any, .any, .any, .any, .any, .any, .any, .any, .any, .any] [some (Blk.mk false (61 : TypeId) 7 true (List.map slE l))] = gcSt l p' ∧ Nat.le p' (List.length l) ∧ List.length l + (1 : Nat) - p' < List.length l + (1 : Nat) - p)) ∧ (Decidable.decide ((↑p : Int) < (↑(List.length (List.map slE l)) : Int)) = false → AV.int IntKind.i64 (frS (List.take p l)) = r)) := by kernel_rfl

theorem gfree8_ok : SpecOK Try.prog 24 (genSpec [pSl] gfree8F) := by
  refine genSpec_ok none_ok fun l R hF => ?_
  unfold gfree8F at hF
  split at hF
  · rename_i r_l
    obtain ⟨hr_l, hl, hF⟩ := hF
    generalize deS r_l = l at hr_l hl hF
    subst hr_l
    refine ⟨_, hF, rfl, (gcH l), ?_⟩
    show run [] Try.prog _ [.vsl 0 0 (l.map slE).length] [some ⟨false, (pSl.getD (0, 0)).1, (pSl.getD (0, 0)).2, true, (l.map slE)⟩] _ _
    rw [gfree8_run]
    refine ⟨⟨rfl, Nat.zero_le _⟩, ?_⟩
    intro p (hp : p ≤ l.length)
    refine ⟨fun hlt => ?_, fun hge => ?_⟩
    · have hlt : p < l.length := by simp only [decide_eq_true_eq, List.length_map] at hlt; omega
      have B : 0 ≤ (p : Int) ∧ (p : Int) < ((l.map slE).length : Int) := by rw [List.length_map]; omega
      have e : frS (l.take (p + 1)) = if (at' l p).ok then frS (l.take p) else frS (l.take p) + 1 := by rw [take_one hlt, frS_snoc]
      have hb : frS (l.take p) ≤ p ∧ 0 ≤ frS (l.take p) := by
        have := ensS_length (l.take p)
        unfold frS
        rw [List.length_take] at *
        omega
      refine ⟨B, read_rows B.1 B.2 (sl_whole _), fun ho => ?_, fun ho => ?_⟩
      · rw [notTT ho] at e
        refine ⟨inR (by omega) (by omega), inR (by omega) (by omega), p + 1, ?_, hlt, by omega⟩
        unfold gcSt
        rw [e]; rfl
      · rw [notF ho] at e
        refine ⟨inR (by omega) (by omega), p + 1, ?_, hlt, by omega⟩
        unfold gcSt
        rw [e]; rfl
    · have hp : p = l.length := by simp only [decide_eq_false_iff_not, List.length_map] at hge; omega
      subst hp
      rw [List.take_length]
  · exact hF.elim


theorem gentries8_run (l : List Sl) (F : List En → List AV) (es : List AV) : run [] Try.prog 22 [.vsl 0 0 (l.map slE).length] [some ⟨false, (pSl.getD (0, 0)).1, (pSl.getD (0, 0)).2, true, (l.map slE)⟩] (gnH F l) (yields (.vrow 29 6 es)) =
    ((St.mk [.any, .any, .any, AV.vsl (List.length [some (Blk.mk false (61 : TypeId) 7 true (List.map slE l))]) 0 0, .any, .any, AV.vsl 0 0 (List.length (List.map slE l)), AV.int IntKind.i64 (↑(List.length (List.map slE l)) : Int), AV.int IntKind.i64 0, .any, .any, .any, .any, .any, .any, .any, .any, .any, .any, .any, .any] ([some (Blk.mk false (61 : TypeId) 7 true (List.map slE l))] ++ [some (Blk.mk true (29 : TypeId) 6 true [])]) = gnSt F l 0 ∧ Nat.le 0 (List.length l)) ∧ ∀ (p : Nat), Nat.le p (List.length l) → (Decidable.decide ((↑p : Int) < (↑(List.length (List.map slE l)) : Int)) = true → ((0 : Int) ≤ (↑p : Int) ∧ (↑p : Int) < (↑(List.length (List.map slE l)) : Int)) ∧ Blk.read Proofs.Try.prog (Blk.mk false (61 : TypeId) 7 true (List.map slE l)) 61 ((0 : Nat) + Int.toNat (↑p : Int)) 0 = some (AV.agg [AV.bool (at' l p).1, AV.w64 (Sl.e (at' l p)).1, AV.w64 (Sl.e (at' l p)).2, AV.w64 (Sl.e (at' l p)).3, AV.w64 (Sl.e (at' l p)).4, AV.int IntKind.i64 (Sl.e (at' l p)).5, AV.int IntKind.i64 (Sl.e (at' l p)).6]) ∧ ((at' l p).1 = true → ((List.length (ensS (List.take p l)) + (1 : Nat)) * (48 : Nat) ≤ (140737488355328 : Nat) ∧ List.length (ensS (List.take p l)) + (1 : Nat) ≤ (9223372036854775807 : Nat) ∧ (0 : Nat) + (1 : Nat) ≤ List.length [AV.agg [AV.w64 (Sl.e (at' l p)).1, AV.w64 (Sl.e (at' l p)).2, AV.w64 (Sl.e (at' l p)).3, AV.w64 (Sl.e (at' l p)).4, AV.int IntKind.i64 (Sl.e (at' l p)).5, AV.int IntKind.i64 (Sl.e (at' l p)).6]] ∧ List.length (ensS (List.take p l)) ≤ List.length (F (ensS (List.take p l)))) ∧ List.take (List.length (ensS (List.take p l))) (F (ensS (List.take p l))) ++ [AV.agg [AV.w64 (Sl.e (at' l p)).1, AV.w64 (Sl.e (at' l p)).2, AV.w64 (Sl.e (at' l p)).3, AV.w64 (Sl.e (at' l p)).4, AV.int IntKind.i64 (Sl.e (at' l p)).5, AV.int IntKind.i64 (Sl.e (at' l p)).6]] = F (ensS (List.take (p + (1 : Nat)) l)) ∧ inRange IntKind.i64 ((↑p : Int) + (1 : Int)) ∧ ∃ (p' : Nat), St.mk [.any, .any, .any, AV.vsl ((0 : Nat) + (1 : Nat)) 0 (List.length (ensS (List.take p l)) + (1 : Nat)), .any, .any, AV.vsl 0 0 (List.length (List.map slE l)), AV.int IntKind.i64 (↑(List.length (List.map slE l)) : Int), AV.int IntKind.i64 ((↑p : Int) + (1 : Int)), .any, .any, .any, .any, .any, .any, .any, .any, .any, .any, .any, .any] [some (Blk.mk false (61 : TypeId) 7 true (List.map slE l)), some (Blk.mk true 29 6 true (F (ensS (List.take (p + (1 : Nat)) l))))] = gnSt F l p' ∧ Nat.le p' (List.length l) ∧ List.length l + (1 : Nat) - p' < List.length l + (1 : Nat) - p) ∧ ((at' l p).1 = false → inRange IntKind.i64 ((↑p : Int) + (1 : Int)) ∧ ∃ (p' : Nat), St.mk [.any, .any, .any, AV.vsl ((0 : Nat) + (1 : Nat)) 0 (List.length (ensS (List.take p l))), .any, .any, AV.vsl 0 0 (List.length (List.map slE l)), AV.int IntKind.i64 (↑(List.length (List.map slE l)) : Int), AV.int IntKind.i64 ((↑p : Int) + (1 : Int)), .any, .any, .any, .any, .any, .any, .any, .any, .any, .any, .any, .any] [some (Blk.mk false (61 : TypeId) 7 true (List.map slE l)), some (Blk.mk true (29 : TypeId) 6 true (F (ensS (List.take p l))))] = gnSt F l p' ∧ Nat.le p' (List.length l) ∧ List.length l + (1 : Nat) - p' < List.length l + (1 : Nat) - p)) ∧ (Decidable.decide ((↑p : Int) < (↑(List.length (List.map slE l)) : Int)) = false → List.length (ensS (List.take p l)) = List.length es ∧ some (Blk.mk true (29 : TypeId) 6 true (F (ensS (List.take p l)))) = some (Blk.mk true (29 : TypeId) 6 true es))) := by kernel_rfl

theorem gentries8_ok : SpecOK Try.prog 22 (genSpec [pSl] gentries8F) := by
  refine genSpec_ok none_ok fun l R hF => ?_
  unfold gentries8F at hF
  split at hF
  · rename_i r_l
    obtain ⟨hr_l, hl, hF⟩ := hF
    generalize deS r_l = l at hr_l hl hF
    subst hr_l
    refine ⟨_, hF, trivial, (gnH (List.map enE) l), ?_⟩
    show run [] Try.prog _ [.vsl 0 0 (l.map slE).length] [some ⟨false, (pSl.getD (0, 0)).1, (pSl.getD (0, 0)).2, true, (l.map slE)⟩] _ _
    rw [gentries8_run]
    have hle : ∀ q, (ensS (l.take q)).length ≤ 1000000 := fun q => by have := ensS_length (l.take q); rw [List.length_take] at this; omega
    refine ⟨⟨rfl, Nat.zero_le _⟩, ?_⟩
    intro p (hp : p ≤ l.length)
    refine ⟨fun hlt => ?_, fun hge => ?_⟩
    · have hlt : p < l.length := by simp only [decide_eq_true_eq, List.length_map] at hlt; omega
      have B : 0 ≤ (p : Int) ∧ (p : Int) < ((l.map slE).length : Int) := by rw [List.length_map]; omega
      have e : ensS (l.take (p + 1)) = if (at' l p).ok then ensS (l.take p) ++ [(at' l p).e] else ensS (l.take p) := by rw [take_one hlt, ensS_snoc]
      refine ⟨B, read_rows B.1 B.2 (sl_whole _), fun ho => ?_, fun ho => ?_⟩
      · rw [ho, if_pos rfl] at e
        have := hle p
        refine ⟨⟨by omega, by omega, by simp, by rw [List.length_map]; exact Nat.le_refl _⟩, ?_, inR (by omega) (by omega), p + 1, ?_, hlt, by omega⟩
        · rw [List.take_of_length_le (by rw [List.length_map]; exact Nat.le_refl _), e, List.map_append]
          rfl
        · unfold gnSt
          rw [e, List.length_append]
          rfl
      · rw [ho] at e
        refine ⟨inR (by omega) (by omega), p + 1, ?_, hlt, by omega⟩
        unfold gnSt
        rw [e]; rfl
    · have hp : p = l.length := by simp only [decide_eq_false_iff_not, List.length_map] at hge; omega
      subst hp
      rw [List.take_length, List.length_map]
      exact ⟨rfl, rfl⟩
  · exact hF.elim


theorem gclone8_run (l : List Sl) (F : List Sl → List AV) (es : List AV) : run [] Try.prog 47 [.vsl 0 0 (l.map slE).length] [some ⟨false, (pSl.getD (0, 0)).1, (pSl.getD (0, 0)).2, true, (l.map slE)⟩] [.ix l.length, .rows (F l)] (yields (.vrow 61 7 es)) =
    (((0 : Int) ≤ (↑(List.length (List.map slE l)) : Int) ∧ (↑(List.length (List.map slE l)) : Int) ≤ (↑(List.length (List.map slE l)) : Int) ∧ (↑(List.length (List.map slE l)) : Int) ≤ (9223372036854775807 : Int) ∧ (↑(56 : Nat) : Int) * (↑(List.length (List.map slE l)) : Int) ≤ (281474976710656 : Int) ∧ (0 : Nat) < (7 : Nat)) ∧ (List.length l = Min.min (List.length (List.map slE l)) (Int.toNat (↑(List.length (List.map slE l)) : Int)) ∧ (0 : Nat) + Int.toNat (↑(List.length (List.map slE l)) : Int) ≤ List.length ((List.replicate (Int.toNat (↑(List.length (List.map slE l)) : Int)) (AV.agg [AV.lit (Value.bool false), AV.lit (Value.int IntKind.u64 0), AV.lit (Value.int IntKind.u64 0), AV.lit (Value.int IntKind.u64 0), AV.lit (Value.int IntKind.u64 0), AV.lit (Value.int IntKind.i64 0), AV.lit (Value.int IntKind.i64 0)]))) ∧ (0 : Nat) + List.length (List.map slE l) ≤ List.length (List.map slE l)) ∧ [] ++ List.take (List.length l) (List.drop 0 (List.map slE l)) ++ List.drop ((0 : Nat) + List.length l) ((List.replicate (Int.toNat (↑(List.length (List.map slE l)) : Int)) (AV.agg [AV.lit (Value.bool false), AV.lit (Value.int IntKind.u64 0), AV.lit (Value.int IntKind.u64 0), AV.lit (Value.int IntKind.u64 0), AV.lit (Value.int IntKind.u64 0), AV.lit (Value.int IntKind.i64 0), AV.lit (Value.int IntKind.i64 0)]))) = F l ∧ Int.toNat (↑(List.length (List.map slE l)) : Int) = List.length es ∧ some (Blk.mk true (nat_lit 61) 7 true (F l)) = some (Blk.mk true (61 : TypeId) 7 true es)) := by kernel_rfl

theorem gclone8_ok : SpecOK Try.prog 47 (genSpec [pSl] clone8F) := by
  refine genSpec_ok none_ok fun l R hF => ?_
  unfold clone8F at hF
  split at hF
  · rename_i r_l
    obtain ⟨hr_l, hl, hF⟩ := hF
    generalize deS r_l = l at hr_l hl hF
    subst hr_l
    refine ⟨_, hF, trivial, [.ix l.length, .rows ((List.map slE) l)], ?_⟩
    show run [] Try.prog _ [.vsl 0 0 (l.map slE).length] [some ⟨false, (pSl.getD (0, 0)).1, (pSl.getD (0, 0)).2, true, (l.map slE)⟩] _ _
    rw [gclone8_run]
    have e : (((l.map slE).length : Int)).toNat = l.length := by rw [List.length_map]; rfl
    rw [e, List.length_replicate, List.length_map]
    refine ⟨⟨by omega, by omega, by omega, by omega, by decide⟩, ⟨by omega, by omega, by omega⟩, ?_, rfl, rfl⟩
    rw [List.nil_append, take_all rfl, List.drop_eq_nil_of_le (by rw [List.length_replicate]; omega), List.append_nil]
  · exact hF.elim


noncomputable def gapply8Cs : List (FuncId × Sx.Spec) := [(47, genSpec [pSl] clone8F),
  (48, genSpec [none, none] gmay8F)]

theorem gapply8_run (l : List Sl) (w : List Wr) (F : List Sl → List AV) (es : List AV) : run gapply8Cs Try.prog 26 [.vsl 0 0 (l.map slE).length, .vsl 1 0 (w.map wrE).length] [some ⟨false, (pSl.getD (0, 0)).1, (pSl.getD (0, 0)).2, true, (l.map slE)⟩, some ⟨false, (pWr.getD (0, 0)).1, (pWr.getD (0, 0)).2, true, (w.map wrE)⟩] (gaH F l w) (yields (.vrow 61 7 es)) =
    ((0 : Nat) + List.length (List.map slE l) ≤ List.length (List.map slE l) ∧ List.take (List.length (List.map slE l)) (List.drop 0 (List.map slE l)) = List.map slE (deS (List.take (List.length (List.map slE l)) (List.drop 0 (List.map slE l)))) ∧ List.length (deS (List.take (List.length (List.map slE l)) (List.drop 0 (List.map slE l)))) ≤ (1000000 : Nat) ∧ (List.map slE (deS (List.take (List.length (List.map slE l)) (List.drop 0 (List.map slE l)))) = F l ∧ List.length (List.map slE (deS (List.take (List.length (List.map slE l)) (List.drop 0 (List.map slE l))))) = List.length (F l)) ∧ (St.mk [.any, .any, .any, .any, .any, AV.vsl ((0 : Nat) + (1 : Nat) + (1 : Nat)) 0 (List.length (F l)), .any, .any, .any, .any, AV.vsl ((0 : Nat) + (1 : Nat)) 0 (List.length (List.map wrE w)), AV.int IntKind.i64 (↑(List.length (List.map wrE w)) : Int), AV.int IntKind.i64 0, .any, .any, .any, .any, .any, .any, .any, .any, .any, .any, .any, .any, .any, .any, .any] [some (Blk.mk false (61 : TypeId) 7 true (List.map slE l)), some (Blk.mk false (64 : TypeId) 8 true (List.map wrE w)), some (Blk.mk true (61 : TypeId) 7 true (F l))] = gaSt F l w 0 ∧ Nat.le 0 (List.length w)) ∧ ∀ (p : Nat), Nat.le p (List.length w) → (Decidable.decide ((↑p : Int) < (↑(List.length (List.map wrE w)) : Int)) = true → ((0 : Int) ≤ (↑p : Int) ∧ (↑p : Int) < (↑(List.length (List.map wrE w)) : Int)) ∧ Blk.read Proofs.Try.prog (Blk.mk false (64 : TypeId) 8 true (List.map wrE w)) 64 ((0 : Nat) + Int.toNat (↑p : Int)) 0 = some (AV.agg [AV.int IntKind.i64 (at' w p).1, AV.bool (Wr.s (at' w p)).1, AV.w64 (Sl.e (Wr.s (at' w p))).1, AV.w64 (Sl.e (Wr.s (at' w p))).2, AV.w64 (Sl.e (Wr.s (at' w p))).3, AV.w64 (Sl.e (Wr.s (at' w p))).4, AV.int IntKind.i64 (Sl.e (Wr.s (at' w p))).5, AV.int IntKind.i64 (Sl.e (Wr.s (at' w p))).6]) ∧ (mayS (Wr.mk (at' w p).1 (Sl.mk (Wr.s (at' w p)).1 (En.mk (Sl.e (Wr.s (at' w p))).1 (Sl.e (Wr.s (at' w p))).2 (Sl.e (Wr.s (at' w p))).3 (Sl.e (Wr.s (at' w p))).4 (Sl.e (Wr.s (at' w p))).5 (Sl.e (Wr.s (at' w p))).6))) (↑(List.length (F l)) : Int) = true → ((0 : Int) ≤ (at' w p).1 ∧ (at' w p).1 < (↑(List.length (F l)) : Int)) ∧ Blk.fits (Blk.mk true (61 : TypeId) 7 true (F (apL l (List.take p w)))) ((0 : Nat) + Int.toNat (at' w p).1) 0 (AV.agg [AV.bool (Wr.s (at' w p)).1, AV.w64 (Sl.e (Wr.s (at' w p))).1, AV.w64 (Sl.e (Wr.s (at' w p))).2, AV.w64 (Sl.e (Wr.s (at' w p))).3, AV.w64 (Sl.e (Wr.s (at' w p))).4, AV.int IntKind.i64 (Sl.e (Wr.s (at' w p))).5, AV.int IntKind.i64 (Sl.e (Wr.s (at' w p))).6]) = true ∧ Blk.writes (Blk.mk true (61 : TypeId) 7 true (F (apL l (List.take p w)))) ((0 : Nat) + Int.toNat (at' w p).1) 0 (AV.agg [AV.bool (Wr.s (at' w p)).1, AV.w64 (Sl.e (Wr.s (at' w p))).1, AV.w64 (Sl.e (Wr.s (at' w p))).2, AV.w64 (Sl.e (Wr.s (at' w p))).3, AV.w64 (Sl.e (Wr.s (at' w p))).4, AV.int IntKind.i64 (Sl.e (Wr.s (at' w p))).5, AV.int IntKind.i64 (Sl.e (Wr.s (at' w p))).6]) (F (apL l (List.take (p + (1 : Nat)) w))) ∧ inRange IntKind.i64 ((↑p : Int) + (1 : Int)) ∧ ∃ (p' : Nat), St.mk [.any, .any, .any, .any, .any, AV.vsl ((0 : Nat) + (1 : Nat) + (1 : Nat)) 0 (List.length (F l)), .any, .any, .any, .any, AV.vsl ((0 : Nat) + (1 : Nat)) 0 (List.length (List.map wrE w)), AV.int IntKind.i64 (↑(List.length (List.map wrE w)) : Int), AV.int IntKind.i64 ((↑p : Int) + (1 : Int)), .any, .any, .any, .any, .any, .any, .any, .any, .any, .any, .any, .any, .any, .any, .any] [some (Blk.mk false (61 : TypeId) 7 true (List.map slE l)), some (Blk.mk false (64 : TypeId) 8 true (List.map wrE w)), some (Blk.mk true (nat_lit 61) 7 true (F (apL l (List.take (p + (1 : Nat)) w))))] = gaSt F l w p' ∧ Nat.le p' (List.length w) ∧ List.length w + (1 : Nat) - p' < List.length w + (1 : Nat) - p) ∧ (mayS (Wr.mk (at' w p).1 (Sl.mk (Wr.s (at' w p)).1 (En.mk (Sl.e (Wr.s (at' w p))).1 (Sl.e (Wr.s (at' w p))).2 (Sl.e (Wr.s (at' w p))).3 (Sl.e (Wr.s (at' w p))).4 (Sl.e (Wr.s (at' w p))).5 (Sl.e (Wr.s (at' w p))).6))) (↑(List.length (F l)) : Int) = false → inRange IntKind.i64 ((↑p : Int) + (1 : Int)) ∧ ∃ (p' : Nat), St.mk [.any, .any, .any, .any, .any, AV.vsl ((0 : Nat) + (1 : Nat) + (1 : Nat)) 0 (List.length (F l)), .any, .any, .any, .any, AV.vsl ((0 : Nat) + (1 : Nat)) 0 (List.length (List.map wrE w)), AV.int IntKind.i64 (↑(List.length (List.map wrE w)) : Int), AV.int IntKind.i64 ((↑p : Int) + (1 : Int)), .any, .any, .any, .any, .any, .any, .any, .any, .any, .any, .any, .any, .any, .any, .any] [some (Blk.mk false (61 : TypeId) 7 true (List.map slE l)), some (Blk.mk false (64 : TypeId) 8 true (List.map wrE w)), some (Blk.mk true (61 : TypeId) 7 true (F (apL l (List.take p w))))] = gaSt F l w p' ∧ Nat.le p' (List.length w) ∧ List.length w + (1 : Nat) - p' < List.length w + (1 : Nat) - p)) ∧ (Decidable.decide ((↑p : Int) < (↑(List.length (List.map wrE w)) : Int)) = false → List.length (F l) = List.length es ∧ some (Blk.mk true (61 : TypeId) 7 true (F (apL l (List.take p w)))) = some (Blk.mk true (61 : TypeId) 7 true es))) := by kernel_rfl

theorem gapply8Cs_ok : ∀ e ∈ gapply8Cs, SpecOK Try.prog e.1 e.2 := by
  intro e he
  simp only [gapply8Cs, List.mem_cons, List.not_mem_nil, or_false] at he
  rcases he with rfl | rfl
  · exact gclone8_ok
  · exact gmay8_ok

theorem gapply8_ok : SpecOK Try.prog 26 (genSpec [pSl, pWr] gapply8F) := by
  refine genSpec_ok (run_ok (l := gapply8Cs) gapply8Cs_ok mixed noNG) fun l R hF => ?_
  unfold gapply8F at hF
  split at hF
  · rename_i r_l r_w
    obtain ⟨hr_l, hl, hF⟩ := hF
    generalize deS r_l = l at hr_l hl hF
    subst hr_l
    obtain ⟨hr_w, hw, hF⟩ := hF
    generalize deW r_w = w at hr_w hw hF
    subst hr_w
    refine ⟨_, hF, trivial, (gaH (List.map slE) l w), ?_⟩
    show run gapply8Cs Try.prog _ [.vsl 0 0 (l.map slE).length, .vsl 1 0 (w.map wrE).length] [some ⟨false, (pSl.getD (0, 0)).1, (pSl.getD (0, 0)).2, true, (l.map slE)⟩, some ⟨false, (pWr.getD (0, 0)).1, (pWr.getD (0, 0)).2, true, (w.map wrE)⟩] _ _
    rw [gapply8_run]
    have hlw : ∀ q, (apL l (w.take q)).length = l.length := fun q => apL_length _ _
    rw [whole_row, deS_map]
    refine ⟨by omega, rfl, by omega, ⟨rfl, rfl⟩, ⟨rfl, Nat.zero_le _⟩, ?_⟩
    intro p (hp : p ≤ w.length)
    rw [List.length_map (f := slE)]
    refine ⟨fun hlt => ?_, fun hge => ?_⟩
    · have hlt : p < w.length := by simp only [decide_eq_true_eq, List.length_map] at hlt; omega
      have B : 0 ≤ (p : Int) ∧ (p : Int) < ((w.map wrE).length : Int) := by rw [List.length_map]; omega
      have e : apL l (w.take (p + 1)) = apS (apL l (w.take p)) (at' w p) := by rw [take_one hlt, apL_snoc]
      refine ⟨B, read_rows B.1 B.2 (wr_whole _), fun hm => ?_, fun hm => ?_⟩
      · have hm : mayS (at' w p) l.length = true := hm
        have hi := mayS_is hm
        have hi2 : (at' w p).p < ((apL l (w.take p)).length : Int) := by rw [hlw]; exact hi.2
        refine ⟨hi, fit_rows hi.1 hi2 rfl, wr_rows (x := (at' w p).s) hi.1 hi2 rfl ?_, inR (by omega) (by omega), p + 1, by unfold gaSt; rw [List.length_map (f := slE)]; rfl, hlt, by omega⟩
        rw [e]
        unfold apS
        rw [hlw, if_pos hm]
      · have hm : mayS (at' w p) l.length = false := hm
        refine ⟨inR (by omega) (by omega), p + 1, ?_, hlt, by omega⟩
        have e2 : apL l (w.take (p + 1)) = apL l (w.take p) := by
          rw [e]; unfold apS; rw [hlw, hm]; rfl
        unfold gaSt
        rw [e2, List.length_map (f := slE)]; rfl
    · have hp : p = w.length := by simp only [decide_eq_false_iff_not, List.length_map] at hge; omega
      subst hp
      rw [List.take_length, List.length_map, apL_length]
      exact ⟨rfl, rfl⟩
  · exact hF.elim


end Go.Proofs.Ytmkppicnbjoijaa.L1
end

