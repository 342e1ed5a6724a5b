/-
  Texts in one: L15T L15A L15R L15B L15D L15Q.
-/
import Derived.Test.YtbkaibciiogdkaaL2a
import Derived.Test.YtbkaibciiogdkaaMa

section
/-
  Layer 15: moves as values of the calculus.
-/
namespace Go.Proofs.Ytbkaibciiogdkaa.L1
open Go.Sx Go.Sx.M

/-- A move's cells. -/
def mvE (x : Mv) : AV := .agg [.int .i64 x.b, .int .i64 x.w.p, .bool x.w.s.ok, .w64 x.w.s.e.v, .w64 x.w.s.e.w, .w64 x.w.s.e.m, .w64 x.w.s.e.n, .int .i64 x.w.s.e.len, .int .i64 x.w.s.e.act]

def deM1 (x : AV) : Mv := ⟨cI (x.cells.getD 0 .any), ⟨cI (x.cells.getD 1 .any), ⟨cB (x.cells.getD 2 .any), ⟨cW (x.cells.getD 3 .any), cW (x.cells.getD 4 .any), cW (x.cells.getD 5 .any), cW (x.cells.getD 6 .any), cI (x.cells.getD 7 .any), cI (x.cells.getD 8 .any)⟩⟩⟩⟩
def deM (l : List AV) : List Mv := l.map deM1
theorem deM_map (l : List Mv) : deM (l.map mvE) = l := by
  unfold deM
  rw [List.map_map]
  exact List.map_id l

/-- Rows of moves. -/
def pMv : Par := some (39, 9)

theorem mv_whole (x : Mv) : partOf Try.prog 39 (mvE x).cells 0 = some (mvE x) := by kernel_rfl
theorem mv_bank (x : Mv) : partOf Try.prog 3 (mvE x).cells 0 = some (.int .i64 x.b) := by kernel_rfl
theorem mv_write (x : Mv) : partOf Try.prog 37 (mvE x).cells 1 = some (wrE x.w) := by kernel_rfl

theorem Mv_dec (cs : List Value) (h : fitsAll [.int .i64, .int .i64, .bool, .int .u64, .int .u64, .int .u64, .int .u64, .int .i64, .int .i64] cs) : ∃ x : Mv, (mvE x).cells.length = 9 ∧ (mvE x).sound = true ∧ AVRs [] (mvE x).cells cs := by
  obtain ⟨y0, l0, rfl, e0, g⟩ := fits_cons h
  obtain ⟨n, rfl, _⟩ := e0
  obtain ⟨x, _, _, hx⟩ := Wr_dec _ g
  exact ⟨⟨n, x⟩, rfl, rfl, .cons (.int _ _) hx⟩

theorem byte_wf {n : Int} (h : (Lit.int .u8 n).wf = true) : 0 ≤ n ∧ n < 256 := by
  have h : (decide (IntKind.u8.min ≤ n) && decide (n ≤ IntKind.u8.max)) = true := h
  have e0 : IntKind.u8.min = 0 := by decide
  have e1 : IntKind.u8.max = 255 := by decide
  rw [Bool.and_eq_true, decide_eq_true_eq, decide_eq_true_eq] at h
  omega

/-- A byte's cells. -/
def byE (u : UInt8) : AV := .int .u8 ((u.toNat : Nat) : Int)

theorem UInt8_dec (cs : List Value) (h : fitsAll [.int .u8] cs) : ∃ x : UInt8, (byE x).cells.length = 1 ∧ (byE x).sound = true ∧ AVRs [] (byE x).cells cs := by
  obtain ⟨y0, l0, rfl, e0, g⟩ := fits_cons h
  obtain ⟨n, rfl, w⟩ := e0
  obtain rfl := fits_nil g
  have hb := byte_wf w
  obtain ⟨m, rfl⟩ := Int.eq_ofNat_of_zero_le hb.1
  have hm : m < 256 := by omega
  have e : ((UInt8.ofNat m).toNat : Nat) = m := by
    rw [UInt8.toNat_ofNat']
    exact Nat.mod_eq_of_lt hm
  refine ⟨UInt8.ofNat m, rfl, rfl, ?_⟩
  show AVRs [] [.int .u8 (((UInt8.ofNat m).toNat : Nat) : Int)] [.int .u8 (m : Int)]
  rw [e]
  exact .cons (.int _ _) .nil

end Go.Proofs.Ytbkaibciiogdkaa.L1
end

section
/-
  Layer 15: the law's same.
-/
namespace Go.Proofs.Ytbkaibciiogdkaa.L1
open Go.Sx Go.Sx.M

def sm15St (l m : List Mv) (p : Nat) : St :=
  ⟨[.vsl 0 0 (l.map mvE).length, .vsl 1 0 (m.map mvE).length, .any, .any, .any, .any, .any, .any, .any, .any, .any, .any, .int .i64 (l.map mvE).length, .int .i64 p, .any, .any, .any, .any, .any, .any, .any, .any, .any, .any, .any, .any], [some ⟨false, 39, 9, true, l.map mvE⟩, some ⟨false, 39, 9, true, m.map mvE⟩]⟩
def sm15M0 : Modes := ⟨[1, 1, 0, 0, 0, 0, 0, 0, 0, 0, 0, 0, 1, 2, 0, 0, 0, 0, 0, 0, 0, 0, 0, 0, 0, 0], [], [], [], []⟩
def sm15M : Modes := ⟨[1, 1, 0, 0, 0, 0, 0, 0, 0, 0, 0, 0, 1, 1, 0, 0, 0, 0, 0, 0, 0, 0, 0, 0, 0, 0], [], [], [], []⟩
def sm15M' : Modes := ⟨[0, 0, 0, 0, 2, 0, 0, 0, 0, 0, 0, 0, 0, 0, 0, 0, 0, 0, 0, 0, 0, 0, 0, 0, 0, 0], [], [], [], []⟩
def sm15I (l m : List Mv) (p : Nat) : Prop := p ≤ l.length ∧ ∀ j, j < p → at' l j = at' m j
def sm15H (l m : List Mv) : List Hint := [.fork [] [.linv _ 0 (sm15St l m) (sm15I l m) (fun p => l.length + 1 - p) sm15M0 sm15M sm15M' (fun _ => []) fun p =>
  [.fork [.dy, .cell (mvE (at' l p)), .dy, .cell (mvE (at' m p)), .fork [] [.nw]] []]]]

def same15F : List Arg → (Res → Prop) → Prop
  | [.row r_l, .row r_m], R => r_l = (deM r_l).map mvE ∧ (deM r_l).length ≤ 1000000 ∧ r_m = (deM r_m).map mvE ∧ (deM r_m).length ≤ 1000000 ∧ R (.v (.bool (decide ((deM r_l) = (deM r_m)))))
  | _, _ => False

theorem same15_run (l m : List Mv) (r : AV) : run [] Try.prog 14 [.vsl 0 0 (l.map mvE).length, .vsl 1 0 (m.map mvE).length] [some ⟨false, (pMv.getD (0, 0)).1, (pMv.getD (0, 0)).2, true, (l.map mvE)⟩, some ⟨false, (pMv.getD (0, 0)).1, (pMv.getD (0, 0)).2, true, (m.map mvE)⟩] (sm15H l m) (yields (.v r)) =
    ((((↑(List.length (List.map mvE l)) : Int) != (↑(List.length (List.map mvE m)) : Int)) = true → AV.bool false = r) ∧ (((↑(List.length (List.map mvE l)) : Int) != (↑(List.length (List.map mvE m)) : Int)) = false → (St.mk [AV.vsl (0 : Nat) (0 : Nat) (List.length (List.map mvE l)), AV.vsl ((0 : Nat) + (1 : Nat)) (0 : Nat) (List.length (List.map mvE m)), AV.any, AV.any, AV.any, AV.any, AV.any, AV.any, AV.any, AV.any, AV.any, AV.any, AV.int IntKind.i64 (↑(List.length (List.map mvE l)) : Int), AV.int IntKind.i64 (0 : Int), AV.any, AV.any, AV.any, AV.any, AV.any, AV.any, AV.any, AV.any, AV.any, AV.any, AV.any, AV.any] [some (Blk.mk false (39 : TypeId) (9 : Nat) true (List.map mvE l)), some (Blk.mk false (39 : TypeId) (9 : Nat) true (List.map mvE m))] = sm15St l m (0 : Nat) ∧ sm15I l m (0 : Nat)) ∧ ∀ (p : Nat), sm15I l m p → (Decidable.decide ((↑p : Int) < (↑(List.length (List.map mvE l)) : Int)) = true → ((0 : Int) ≤ (↑p : Int) ∧ (↑p : Int) < (↑(List.length (List.map mvE l)) : Int)) ∧ Blk.read Proofs.Try.prog (Blk.mk false (39 : TypeId) (9 : Nat) true (List.map mvE l)) (39 : Nat) ((0 : Nat) + Int.toNat (↑p : Int)) (0 : Nat) = some (AV.agg [AV.int IntKind.i64 (at' l p).1, AV.int IntKind.i64 (Mv.w (at' l p)).1, AV.bool (Wr.s (Mv.w (at' l p))).1, AV.w64 (Sl.e (Wr.s (Mv.w (at' l p)))).1, AV.w64 (Sl.e (Wr.s (Mv.w (at' l p)))).2, AV.w64 (Sl.e (Wr.s (Mv.w (at' l p)))).3, AV.w64 (Sl.e (Wr.s (Mv.w (at' l p)))).4, AV.int IntKind.i64 (Sl.e (Wr.s (Mv.w (at' l p)))).5, AV.int IntKind.i64 (Sl.e (Wr.s (Mv.w (at' l p)))).6]) ∧ ((0 : Int) ≤ (↑p : Int) ∧ (↑p : Int) < (↑(List.length (List.map mvE m)) : Int)) ∧ Blk.read Proofs.Try.prog (Blk.mk false (39 : TypeId) (9 : Nat) true (List.map mvE m)) (39 : Nat) ((0 : Nat) + Int.toNat (↑p : Int)) (0 : Nat) = some (AV.agg [AV.int IntKind.i64 (at' m p).1, AV.int IntKind.i64 (Mv.w (at' m p)).1, AV.bool (Wr.s (Mv.w (at' m p))).1, AV.w64 (Sl.e (Wr.s (Mv.w (at' m p)))).1, AV.w64 (Sl.e (Wr.s (Mv.w (at' m p)))).2, AV.w64 (Sl.e (Wr.s (Mv.w (at' m p)))).3, AV.w64 (Sl.e (Wr.s (Mv.w (at' m p)))).4, AV.int IntKind.i64 (Sl.e (Wr.s (Mv.w (at' m p)))).5, AV.int IntKind.i64 (Sl.e (Wr.s (Mv.w (at' m p)))).6]) ∧ ((!((at' l p).1 == (at' m p).1 && ((Mv.w (at' l p)).1 == (Mv.w (at' m p)).1 && ((Wr.s (Mv.w (at' l p))).1 == (Wr.s (Mv.w (at' m p))).1 && ((Sl.e (Wr.s (Mv.w (at' l p)))).1 == (Sl.e (Wr.s (Mv.w (at' m p)))).1 && (Sl.e (Wr.s (Mv.w (at' l p)))).2 == (Sl.e (Wr.s (Mv.w (at' m p)))).2 && ((Sl.e (Wr.s (Mv.w (at' l p)))).3 == (Sl.e (Wr.s (Mv.w (at' m p)))).3 && (Sl.e (Wr.s (Mv.w (at' l p)))).4 == (Sl.e (Wr.s (Mv.w (at' m p)))).4) && ((Sl.e (Wr.s (Mv.w (at' l p)))).5 == (Sl.e (Wr.s (Mv.w (at' m p)))).5 && (Sl.e (Wr.s (Mv.w (at' l p)))).6 == (Sl.e (Wr.s (Mv.w (at' m p)))).6)))))) = true → AV.bool false = r) ∧ ((!((at' l p).1 == (at' m p).1 && ((Mv.w (at' l p)).1 == (Mv.w (at' m p)).1 && ((Wr.s (Mv.w (at' l p))).1 == (Wr.s (Mv.w (at' m p))).1 && ((Sl.e (Wr.s (Mv.w (at' l p)))).1 == (Sl.e (Wr.s (Mv.w (at' m p)))).1 && (Sl.e (Wr.s (Mv.w (at' l p)))).2 == (Sl.e (Wr.s (Mv.w (at' m p)))).2 && ((Sl.e (Wr.s (Mv.w (at' l p)))).3 == (Sl.e (Wr.s (Mv.w (at' m p)))).3 && (Sl.e (Wr.s (Mv.w (at' l p)))).4 == (Sl.e (Wr.s (Mv.w (at' m p)))).4) && ((Sl.e (Wr.s (Mv.w (at' l p)))).5 == (Sl.e (Wr.s (Mv.w (at' m p)))).5 && (Sl.e (Wr.s (Mv.w (at' l p)))).6 == (Sl.e (Wr.s (Mv.w (at' m p)))).6)))))) = false → inRange IntKind.i64 ((↑p : Int) + (1 : Int)) ∧ ∃ (p' : Nat), St.mk [AV.vsl (0 : Nat) (0 : Nat) (List.length (List.map mvE l)), AV.vsl ((0 : Nat) + (1 : Nat)) (0 : Nat) (List.length (List.map mvE m)), AV.any, AV.any, AV.any, AV.any, AV.any, AV.any, AV.any, AV.any, AV.any, AV.any, AV.int IntKind.i64 (↑(List.length (List.map mvE l)) : Int), AV.int IntKind.i64 ((↑p : Int) + (1 : Int)), AV.any, AV.any, AV.any, AV.any, AV.any, AV.any, AV.any, AV.any, AV.any, AV.any, AV.any, AV.any] [some (Blk.mk false (39 : TypeId) (9 : Nat) true (List.map mvE l)), some (Blk.mk false (39 : TypeId) (9 : Nat) true (List.map mvE m))] = sm15St l m p' ∧ sm15I l m p' ∧ List.length l + (1 : Nat) - p' < List.length l + (1 : Nat) - p)) ∧ (Decidable.decide ((↑p : Int) < (↑(List.length (List.map mvE l)) : Int)) = false → AV.bool true = r))) := by kernel_rfl

theorem same15_ok : SpecOK Try.prog 14 (genSpec [pMv, pMv] same15F) := by
  refine genSpec_ok none_ok fun l R hF => ?_
  unfold same15F at hF
  split at hF
  · rename_i r_l r_m
    obtain ⟨hr_l, hl, hF⟩ := hF
    generalize deM r_l = l at hr_l hl hF
    subst hr_l
    obtain ⟨hr_m, hm, hF⟩ := hF
    generalize deM r_m = m at hr_m hm hF
    subst hr_m
    refine ⟨_, hF, rfl, (sm15H l m), ?_⟩
    show run [] Try.prog _ [.vsl 0 0 (l.map mvE).length, .vsl 1 0 (m.map mvE).length] [some ⟨false, (pMv.getD (0, 0)).1, (pMv.getD (0, 0)).2, true, (l.map mvE)⟩, some ⟨false, (pMv.getD (0, 0)).1, (pMv.getD (0, 0)).2, true, (m.map mvE)⟩] _ _
    rw [same15_run]
    simp only [eq_Mv]
    refine ⟨fun h => ?_, fun h => ⟨⟨rfl, Nat.zero_le _, fun j hj => by omega⟩, ?_⟩⟩
    · have h : l.length ≠ m.length := by simp at h; omega
      rw [decide_eq_false fun e => h (by rw [e])]
    · have h : l.length = m.length := by simp at h; omega
      rintro p ⟨h1, h2⟩
      refine ⟨fun hlt => ?_, fun hge => ?_⟩
      · have hp : p < l.length := by simp only [decide_eq_true_eq, List.length_map] at hlt; omega
        have B : 0 ≤ (p : Int) ∧ (p : Int) < ((l.map mvE).length : Int) := by rw [List.length_map]; omega
        have B2 : 0 ≤ (p : Int) ∧ (p : Int) < ((m.map mvE).length : Int) := by rw [List.length_map]; omega
        refine ⟨B, read_rows B.1 B.2 (mv_whole _), B2, read_rows B2.1 B2.2 (mv_whole _), fun hne => ?_, fun he => ⟨inR (by omega) (by omega), p + 1, rfl, ⟨by omega, up h2 ?_⟩, by omega⟩⟩
        · have hne : at' l p ≠ at' m p := by simpa using hne
          rw [decide_eq_false fun e => hne (by rw [e])]
        · simpa using he
      · have hp : p = l.length := by simp only [decide_eq_false_iff_not, List.length_map] at hge; omega
        subst hp
        rw [decide_eq_true (show l = m from List.ext_getElem h fun j a b => by rw [← at_eq a, ← at_eq b]; exact h2 j a)]
  · exact hF.elim


end Go.Proofs.Ytbkaibciiogdkaa.L1
end

section
/-
  Layer 15: the rows of a job, as it stands while it is run.
-/
namespace Go.Proofs.Ytbkaibciiogdkaa.L1
open Go.Sx Go.Sx.M

theorem mv_read {b : Bool} {l : List Mv} {i p : Nat} (h : p < l.length) (e : i = p) : Blk.read Try.prog (Blk.mk b 39 9 true (l.map mvE)) 39 i 0 = some (mvE (at' l p)) := by
  subst e
  have B : 0 ≤ (i : Int) ∧ (i : Int) < ((l.map mvE).length : Int) := by rw [List.length_map]; omega
  have r := read_rows (b := b) (ty := 39) (esz := 9) B.1 B.2 (mv_whole _)
  rw [Nat.zero_add, Int.toNat_natCast] at r
  exact r

theorem ends2 {b c R T : Prop} (hR : b → c → R) (hT : (b → ¬ c) → T) : (b → (c → R) ∧ (¬ c → T)) ∧ (¬ b → T) :=
  ⟨fun hb => ⟨fun hc => hR hb hc, fun hc => hT fun _ => hc⟩, fun hb => hT fun h => absurd h hb⟩

theorem byte_wrap {a : Int} (h : (Lit.int .u8 a).wf = true) : IntKind.wrap .i64 a = a := by
  have := byte_wf h
  exact wrap_small a (by omega) (by omega)

def mvR (l : List Mv) : Option Blk := some ⟨true, 39, 9, true, l.map mvE⟩
/-- A job's row: what is left of row c, from p on. -/
def jbR (c p n : Nat) : Option Blk := some ⟨true, 61, 1, false, [.agg [.vsl c p (n - p)]]⟩
theorem jb_next {c p n : Nat} : some (Blk.mk true 61 1 false [.agg [.vsl c (p + Int.toNat 1) (n - p - Int.toNat 1)]]) = jbR c (p + 1) n := by
  unfold jbR
  rw [show Int.toNat 1 = 1 from rfl, Nat.sub_sub]
def fnR (f : AV) : Option Blk := some ⟨true, 41, 1, true, [f]⟩
def inR' (n : Int) : Option Blk := some ⟨true, 3, 1, true, [.int .i64 n]⟩

def rnFn (d c : Nat) : AV := .func (.func 29) [] [.ptr d 0 0 true, .ptr c 0 0 true]
theorem rest_rows {l : List Mv} {m p : Nat} (hm : m = l.length) : List.take (m - p) (List.drop p (l.map mvE)) = (l.drop p).map mvE := by
  rw [List.map_drop, List.take_of_length_le (by rw [List.length_drop, List.length_map]; omega)]

theorem at_drop {l : List Mv} {p s : Nat} : at' (l.drop p) s = at' l (p + s) := by
  unfold at'
  rw [List.getD_eq_getElem?_getD, List.getD_eq_getElem?_getD, List.getElem?_drop]

theorem mv_read_drop {b : Bool} {l : List Mv} {i p s : Nat} (h : p + s < l.length) (e : i = s) : Blk.read Try.prog (Blk.mk b 39 9 true ((l.drop p).map mvE)) 39 i 0 = some (mvE (at' l (p + s))) := by
  rw [← at_drop]
  exact mv_read (by rw [List.length_drop]; omega) e

end Go.Proofs.Ytbkaibciiogdkaa.L1
end

section
/-
  Layer 15: what the contracts of the program's calls say; what the document fixes of three moves.
-/
namespace Go.Proofs.Ytbkaibciiogdkaa.L1
open Go.Sx Go.Sx.M

def gof15F : List Arg → (Res → Prop) → Prop
  | [.v (.int .i64 j), .row r_l], R => r_l = (deW r_l).map wrE ∧ (deW r_l).length ≤ 1000000 ∧ R (.vrow 39 9 ((ofM j (deW r_l)).map mvE))
  | _, _ => False

noncomputable def awake15Cs : List (FuncId × Sx.Spec) := [(22, genSpec [none, pWr] gof15F)]

def aw15L : List AV := List.map mvE (ofM 1 [⟨0, zS⟩, ⟨1, zS⟩, ⟨2, zS⟩])
def aw15R (p : Int) : List Hint := [.br true, .br false, .br false, .cell (mvE ⟨1, ⟨p, zS⟩⟩), .br true]
def aw15H : List Hint := [.nm aw15L, .rows aw15L, .br false, .br false, .loop 3] ++ aw15R 0 ++ aw15R 1 ++ [.br false, .cell (mvE ⟨1, ⟨2, zS⟩⟩), .br true, .br true, .br true]

theorem awake15_run (_u : Unit) : run awake15Cs Try.prog 9 [] [] aw15H (comesTo (.bool true)) =
    ([AV.agg [AV.int IntKind.i64 (0 : Int), AV.bool false, AV.w64 (BitVec.ofInt (64 : Nat) (0 : Int)), AV.w64 (BitVec.ofInt (64 : Nat) (0 : Int)), AV.w64 (BitVec.ofInt (64 : Nat) (0 : Int)), AV.w64 (BitVec.ofInt (64 : Nat) (0 : Int)), AV.int IntKind.i64 (0 : Int), AV.int IntKind.i64 (0 : Int)], AV.agg [AV.int IntKind.i64 (1 : Int), AV.bool false, AV.w64 (BitVec.ofInt (64 : Nat) (0 : Int)), AV.w64 (BitVec.ofInt (64 : Nat) (0 : Int)), AV.w64 (BitVec.ofInt (64 : Nat) (0 : Int)), AV.w64 (BitVec.ofInt (64 : Nat) (0 : Int)), AV.int IntKind.i64 (0 : Int), AV.int IntKind.i64 (0 : Int)], AV.agg [AV.int IntKind.i64 (2 : Int), AV.bool false, AV.w64 (BitVec.ofInt (64 : Nat) (0 : Int)), AV.w64 (BitVec.ofInt (64 : Nat) (0 : Int)), AV.w64 (BitVec.ofInt (64 : Nat) (0 : Int)), AV.w64 (BitVec.ofInt (64 : Nat) (0 : Int)), AV.int IntKind.i64 (0 : Int), AV.int IntKind.i64 (0 : Int)]] = [AV.agg [AV.int IntKind.i64 (0 : Int), AV.bool false, AV.w64 (BitVec.ofInt (64 : Nat) (0 : Int)), AV.w64 (BitVec.ofInt (64 : Nat) (0 : Int)), AV.w64 (BitVec.ofInt (64 : Nat) (0 : Int)), AV.w64 (BitVec.ofInt (64 : Nat) (0 : Int)), AV.int IntKind.i64 (0 : Int), AV.int IntKind.i64 (0 : Int)], AV.agg [AV.int IntKind.i64 (1 : Int), AV.bool false, AV.w64 (BitVec.ofInt (64 : Nat) (0 : Int)), AV.w64 (BitVec.ofInt (64 : Nat) (0 : Int)), AV.w64 (BitVec.ofInt (64 : Nat) (0 : Int)), AV.w64 (BitVec.ofInt (64 : Nat) (0 : Int)), AV.int IntKind.i64 (0 : Int), AV.int IntKind.i64 (0 : Int)], AV.agg [AV.int IntKind.i64 (2 : Int), AV.bool false, AV.w64 (BitVec.ofInt (64 : Nat) (0 : Int)), AV.w64 (BitVec.ofInt (64 : Nat) (0 : Int)), AV.w64 (BitVec.ofInt (64 : Nat) (0 : Int)), AV.w64 (BitVec.ofInt (64 : Nat) (0 : Int)), AV.int IntKind.i64 (0 : Int), AV.int IntKind.i64 (0 : Int)]] ∧ List.length (deW [AV.agg [AV.int IntKind.i64 (0 : Int), AV.bool false, AV.w64 (BitVec.ofInt (64 : Nat) (0 : Int)), AV.w64 (BitVec.ofInt (64 : Nat) (0 : Int)), AV.w64 (BitVec.ofInt (64 : Nat) (0 : Int)), AV.w64 (BitVec.ofInt (64 : Nat) (0 : Int)), AV.int IntKind.i64 (0 : Int), AV.int IntKind.i64 (0 : Int)], AV.agg [AV.int IntKind.i64 (1 : Int), AV.bool false, AV.w64 (BitVec.ofInt (64 : Nat) (0 : Int)), AV.w64 (BitVec.ofInt (64 : Nat) (0 : Int)), AV.w64 (BitVec.ofInt (64 : Nat) (0 : Int)), AV.w64 (BitVec.ofInt (64 : Nat) (0 : Int)), AV.int IntKind.i64 (0 : Int), AV.int IntKind.i64 (0 : Int)], AV.agg [AV.int IntKind.i64 (2 : Int), AV.bool false, AV.w64 (BitVec.ofInt (64 : Nat) (0 : Int)), AV.w64 (BitVec.ofInt (64 : Nat) (0 : Int)), AV.w64 (BitVec.ofInt (64 : Nat) (0 : Int)), AV.w64 (BitVec.ofInt (64 : Nat) (0 : Int)), AV.int IntKind.i64 (0 : Int), AV.int IntKind.i64 (0 : Int)]]) ≤ (1000000 : Nat) ∧ ([AV.agg [AV.int IntKind.i64 (1 : Int), AV.int IntKind.i64 (0 : Int), AV.bool false, AV.w64 (BitVec.ofInt (64 : Nat) (0 : Int)), AV.w64 (BitVec.ofInt (64 : Nat) (0 : Int)), AV.w64 (BitVec.ofInt (64 : Nat) (0 : Int)), AV.w64 (BitVec.ofInt (64 : Nat) (0 : Int)), AV.int IntKind.i64 (0 : Int), AV.int IntKind.i64 (0 : Int)], AV.agg [AV.int IntKind.i64 (1 : Int), AV.int IntKind.i64 (1 : Int), AV.bool false, AV.w64 (BitVec.ofInt (64 : Nat) (0 : Int)), AV.w64 (BitVec.ofInt (64 : Nat) (0 : Int)), AV.w64 (BitVec.ofInt (64 : Nat) (0 : Int)), AV.w64 (BitVec.ofInt (64 : Nat) (0 : Int)), AV.int IntKind.i64 (0 : Int), AV.int IntKind.i64 (0 : Int)], AV.agg [AV.int IntKind.i64 (1 : Int), AV.int IntKind.i64 (2 : Int), AV.bool false, AV.w64 (BitVec.ofInt (64 : Nat) (0 : Int)), AV.w64 (BitVec.ofInt (64 : Nat) (0 : Int)), AV.w64 (BitVec.ofInt (64 : Nat) (0 : Int)), AV.w64 (BitVec.ofInt (64 : Nat) (0 : Int)), AV.int IntKind.i64 (0 : Int), AV.int IntKind.i64 (0 : Int)]] = aw15L ∧ List.length [AV.agg [AV.int IntKind.i64 (1 : Int), AV.int IntKind.i64 (0 : Int), AV.bool false, AV.w64 (BitVec.ofInt (64 : Nat) (0 : Int)), AV.w64 (BitVec.ofInt (64 : Nat) (0 : Int)), AV.w64 (BitVec.ofInt (64 : Nat) (0 : Int)), AV.w64 (BitVec.ofInt (64 : Nat) (0 : Int)), AV.int IntKind.i64 (0 : Int), AV.int IntKind.i64 (0 : Int)], AV.agg [AV.int IntKind.i64 (1 : Int), AV.int IntKind.i64 (1 : Int), AV.bool false, AV.w64 (BitVec.ofInt (64 : Nat) (0 : Int)), AV.w64 (BitVec.ofInt (64 : Nat) (0 : Int)), AV.w64 (BitVec.ofInt (64 : Nat) (0 : Int)), AV.w64 (BitVec.ofInt (64 : Nat) (0 : Int)), AV.int IntKind.i64 (0 : Int), AV.int IntKind.i64 (0 : Int)], AV.agg [AV.int IntKind.i64 (1 : Int), AV.int IntKind.i64 (2 : Int), AV.bool false, AV.w64 (BitVec.ofInt (64 : Nat) (0 : Int)), AV.w64 (BitVec.ofInt (64 : Nat) (0 : Int)), AV.w64 (BitVec.ofInt (64 : Nat) (0 : Int)), AV.w64 (BitVec.ofInt (64 : Nat) (0 : Int)), AV.int IntKind.i64 (0 : Int), AV.int IntKind.i64 (0 : Int)]] = List.length aw15L) ∧ (List.length aw15L * (72 : Nat) ≤ (140737488355328 : Nat) ∧ List.length aw15L ≤ (9223372036854775807 : Nat) ∧ (0 : Nat) + List.length aw15L ≤ List.length [AV.agg [AV.int IntKind.i64 (1 : Int), AV.int IntKind.i64 (0 : Int), AV.bool false, AV.w64 (BitVec.ofNat (64 : Nat) (0 : Nat)), AV.w64 (BitVec.ofNat (64 : Nat) (0 : Nat)), AV.w64 (BitVec.ofNat (64 : Nat) (0 : Nat)), AV.w64 (BitVec.ofNat (64 : Nat) (0 : Nat)), AV.int IntKind.i64 (0 : Int), AV.int IntKind.i64 (0 : Int)], AV.agg [AV.int IntKind.i64 (1 : Int), AV.int IntKind.i64 (1 : Int), AV.bool false, AV.w64 (BitVec.ofNat (64 : Nat) (0 : Nat)), AV.w64 (BitVec.ofNat (64 : Nat) (0 : Nat)), AV.w64 (BitVec.ofNat (64 : Nat) (0 : Nat)), AV.w64 (BitVec.ofNat (64 : Nat) (0 : Nat)), AV.int IntKind.i64 (0 : Int), AV.int IntKind.i64 (0 : Int)], AV.agg [AV.int IntKind.i64 (1 : Int), AV.int IntKind.i64 (2 : Int), AV.bool false, AV.w64 (BitVec.ofNat (64 : Nat) (0 : Nat)), AV.w64 (BitVec.ofNat (64 : Nat) (0 : Nat)), AV.w64 (BitVec.ofNat (64 : Nat) (0 : Nat)), AV.w64 (BitVec.ofNat (64 : Nat) (0 : Nat)), AV.int IntKind.i64 (0 : Int), AV.int IntKind.i64 (0 : Int)]]) ∧ [AV.agg [AV.int IntKind.i64 (1 : Int), AV.int IntKind.i64 (0 : Int), AV.bool false, AV.w64 (BitVec.ofNat (64 : Nat) (0 : Nat)), AV.w64 (BitVec.ofNat (64 : Nat) (0 : Nat)), AV.w64 (BitVec.ofNat (64 : Nat) (0 : Nat)), AV.w64 (BitVec.ofNat (64 : Nat) (0 : Nat)), AV.int IntKind.i64 (0 : Int), AV.int IntKind.i64 (0 : Int)], AV.agg [AV.int IntKind.i64 (1 : Int), AV.int IntKind.i64 (1 : Int), AV.bool false, AV.w64 (BitVec.ofNat (64 : Nat) (0 : Nat)), AV.w64 (BitVec.ofNat (64 : Nat) (0 : Nat)), AV.w64 (BitVec.ofNat (64 : Nat) (0 : Nat)), AV.w64 (BitVec.ofNat (64 : Nat) (0 : Nat)), AV.int IntKind.i64 (0 : Int), AV.int IntKind.i64 (0 : Int)], AV.agg [AV.int IntKind.i64 (1 : Int), AV.int IntKind.i64 (2 : Int), AV.bool false, AV.w64 (BitVec.ofNat (64 : Nat) (0 : Nat)), AV.w64 (BitVec.ofNat (64 : Nat) (0 : Nat)), AV.w64 (BitVec.ofNat (64 : Nat) (0 : Nat)), AV.w64 (BitVec.ofNat (64 : Nat) (0 : Nat)), AV.int IntKind.i64 (0 : Int), AV.int IntKind.i64 (0 : Int)]] = aw15L ∧ false = false ∧ false = false ∧ Decidable.decide ((↑(List.length aw15L) : Int) > (0 : Int)) = true ∧ false = false ∧ ((↑(List.length aw15L) : Int) == (0 : Int)) = false ∧ ((0 : Int) ≤ (0 : Int) ∧ (0 : Int) < (↑(List.length aw15L) : Int)) ∧ Blk.read Proofs.Try.prog (Blk.mk true (39 : Nat) (9 : Nat) true aw15L) (39 : Nat) ((0 : Nat) + Int.toNat (0 : Int)) (0 : Nat) = some (AV.agg [AV.int IntKind.i64 (1 : Int), AV.int IntKind.i64 (0 : Int), AV.bool false, AV.w64 (BitVec.ofNat (64 : Nat) (0 : Nat)), AV.w64 (BitVec.ofNat (64 : Nat) (0 : Nat)), AV.w64 (BitVec.ofNat (64 : Nat) (0 : Nat)), AV.w64 (BitVec.ofNat (64 : Nat) (0 : Nat)), AV.int IntKind.i64 (0 : Int), AV.int IntKind.i64 (0 : Int)]) ∧ ((↑(List.length aw15L) : Int) == (↑(List.length aw15L) : Int)) = true ∧ ((0 : Int) ≤ (1 : Int) ∧ (1 : Int) < (↑(List.length aw15L + (1 : Nat)) : Int)) ∧ Decidable.decide ((↑(List.length aw15L - Int.toNat (1 : Int)) : Int) > (0 : Int)) = true ∧ false = false ∧ ((↑(List.length aw15L - Int.toNat (1 : Int)) : Int) == (0 : Int)) = false ∧ ((0 : Int) ≤ (0 : Int) ∧ (0 : Int) < (↑(List.length aw15L - Int.toNat (1 : Int)) : Int)) ∧ Blk.read Proofs.Try.prog (Blk.mk true (39 : Nat) (9 : Nat) true aw15L) (39 : Nat) ((0 : Nat) + Int.toNat (1 : Int) + Int.toNat (0 : Int)) (0 : Nat) = some (AV.agg [AV.int IntKind.i64 (1 : Int), AV.int IntKind.i64 (1 : Int), AV.bool false, AV.w64 (BitVec.ofNat (64 : Nat) (0 : Nat)), AV.w64 (BitVec.ofNat (64 : Nat) (0 : Nat)), AV.w64 (BitVec.ofNat (64 : Nat) (0 : Nat)), AV.w64 (BitVec.ofNat (64 : Nat) (0 : Nat)), AV.int IntKind.i64 (0 : Int), AV.int IntKind.i64 (0 : Int)]) ∧ ((↑(List.length aw15L - Int.toNat (1 : Int)) : Int) == (↑(List.length aw15L - Int.toNat (1 : Int)) : Int)) = true ∧ ((0 : Int) ≤ (1 : Int) ∧ (1 : Int) < (↑(List.length aw15L - Int.toNat (1 : Int) + (1 : Nat)) : Int)) ∧ ((↑(List.length aw15L - Int.toNat (1 : Int) - Int.toNat (1 : Int)) : Int) == (0 : Int)) = false ∧ ((0 : Int) ≤ (0 : Int) ∧ (0 : Int) < (↑(List.length aw15L - Int.toNat (1 : Int) - Int.toNat (1 : Int)) : Int)) ∧ Blk.read Proofs.Try.prog (Blk.mk true (39 : Nat) (9 : Nat) true aw15L) (39 : Nat) ((0 : Nat) + Int.toNat (1 : Int) + Int.toNat (1 : Int) + Int.toNat (0 : Int)) (0 : Nat) = some (AV.agg [AV.int IntKind.i64 (1 : Int), AV.int IntKind.i64 (2 : Int), AV.bool false, AV.w64 (BitVec.ofNat (64 : Nat) (0 : Nat)), AV.w64 (BitVec.ofNat (64 : Nat) (0 : Nat)), AV.w64 (BitVec.ofNat (64 : Nat) (0 : Nat)), AV.w64 (BitVec.ofNat (64 : Nat) (0 : Nat)), AV.int IntKind.i64 (0 : Int), AV.int IntKind.i64 (0 : Int)]) ∧ ((↑(List.length aw15L - Int.toNat (1 : Int) - Int.toNat (1 : Int)) : Int) == (1 : Int)) = true ∧ AV.bool ((1 : Int) == (1 : Int) && ((2 : Int) == (2 : Int) && (false == false && (BitVec.ofNat (64 : Nat) (0 : Nat) == BitVec.ofInt (64 : Nat) (0 : Int) && BitVec.ofNat (64 : Nat) (0 : Nat) == BitVec.ofInt (64 : Nat) (0 : Int) && (BitVec.ofNat (64 : Nat) (0 : Nat) == BitVec.ofInt (64 : Nat) (0 : Int) && BitVec.ofNat (64 : Nat) (0 : Nat) == BitVec.ofInt (64 : Nat) (0 : Int)) && ((0 : Int) == (0 : Int) && (0 : Int) == (0 : Int)))))) = AV.bool true) := by kernel_rfl

theorem awake15_law : ∃ hs, run awake15Cs Try.prog 9 [] [] hs (comesTo (.bool true)) := by
  refine ⟨aw15H, ?_⟩
  rw [awake15_run ()]
  repeat' first
    | apply And.intro
    | intro _
  all_goals first
    | kernel_rfl
    | exact Nat.le_of_ble_eq_true (by kernel_rfl)
    | decide
    | (rename_i h; exact absurd h (by decide))

theorem awake15_of (h : ∀ e ∈ awake15Cs, SpecOK Try.prog e.1 e.2) : SpecOK Try.prog 9 awakeSpec := by
  obtain ⟨hs, r⟩ := awake15_law
  exact awake_ok (run_ok (l := awake15Cs) h mixed noNG) r

end Go.Proofs.Ytbkaibciiogdkaa.L1
end

section
/-
  Layer 15: the contract of job.Of.
-/
namespace Go.Proofs.Ytbkaibciiogdkaa.L1
open Go.Sx Go.Sx.M

def of15R (j : Int) (l : List Wr) (p : Nat) : List AV := (ofM j (l.take p)).map mvE
def of15St (j : Int) (l : List Wr) (p : Nat) : St :=
  ⟨[.int .i64 j, .any, .any, .any, .any, .vsl 1 0 (of15R j l p).length, .any, .any, .vsl 0 0 (l.map wrE).length, .int .i64 (l.map wrE).length, .int .i64 p, .any, .any, .any, .any, .any, .any, .any, .any, .any, .any, .any], [some ⟨false, 37, 8, true, l.map wrE⟩, some ⟨true, 39, 9, true, of15R j l p⟩]⟩
def of15M0 : Modes := ⟨[1, 0, 0, 0, 0, 1, 0, 0, 1, 1, 2, 0, 0, 0, 0, 0, 0, 0, 0, 0, 0, 0], [], [], [], [(5, 39, 9)]⟩
def of15M : Modes := ⟨[1, 0, 0, 0, 0, 1, 0, 0, 1, 1, 1, 0, 0, 0, 0, 0, 0, 0, 0, 0, 0, 0], [], [], [], []⟩
def of15M' : Modes := ⟨[0, 0, 0, 0, 0, 1, 0, 0, 0, 0, 0, 0, 0, 0, 0, 0, 0, 0, 0, 0, 0, 0], [], [], [], []⟩
def of15H (j : Int) (l : List Wr) : List Hint := [.linv _ 0 (of15St j l) (fun p => p ≤ l.length) (fun p => l.length + 1 - p) of15M0 of15M of15M' (fun _ => []) fun p =>
  [.fork [.dy, .cell (wrE (at' l p)), .rows (of15R j l (p + 1)), .nw] []]]

theorem of15_len {j : Int} {l : List Wr} {p : Nat} (h : p ≤ l.length) : (of15R j l p).length = p := by
  unfold of15R ofM
  rw [List.length_map, List.length_map, List.length_take]
  omega

theorem of15_succ {j : Int} {l : List Wr} {p : Nat} (h : p < l.length) : of15R j l p ++ [mvE ⟨j, at' l p⟩] = of15R j l (p + 1) := by
  unfold of15R ofM
  rw [take_one h, List.map_append, List.map_append]
  rfl

theorem gof15_run (j : Int) (l : List Wr) : run [] Try.prog 22 [.int .i64 j, .vsl 0 0 (l.map wrE).length] [some ⟨false, (pWr.getD (0, 0)).1, (pWr.getD (0, 0)).2, true, (l.map wrE)⟩] (of15H j l) (yields (.vrow 39 9 ((ofM j l).map mvE))) =
    ((St.mk [AV.int IntKind.i64 j, AV.any, AV.any, AV.any, AV.any, AV.vsl (List.length [some (Blk.mk false (37 : TypeId) (8 : Nat) true (List.map wrE l))]) (0 : Nat) (0 : Nat), AV.any, AV.any, AV.vsl (0 : Nat) (0 : Nat) (List.length (List.map wrE l)), AV.int IntKind.i64 (↑(List.length (List.map wrE l)) : Int), AV.int IntKind.i64 (0 : Int), AV.any, AV.any, AV.any, AV.any, AV.any, AV.any, AV.any, AV.any, AV.any, AV.any, AV.any] ([some (Blk.mk false (37 : TypeId) (8 : Nat) true (List.map wrE l))] ++ [some (Blk.mk true (39 : TypeId) (9 : Nat) true [])]) = of15St j l (0 : Nat) ∧ Nat.le (0 : Nat) (List.length l)) ∧ ∀ (p : Nat), Nat.le p (List.length l) → (Decidable.decide ((↑p : Int) < (↑(List.length (List.map wrE l)) : Int)) = true → ((0 : Int) ≤ (↑p : Int) ∧ (↑p : Int) < (↑(List.length (List.map wrE l)) : Int)) ∧ Blk.read Proofs.Try.prog (Blk.mk false (37 : TypeId) (8 : Nat) true (List.map wrE l)) (37 : Nat) ((0 : Nat) + Int.toNat (↑p : Int)) (0 : Nat) = some (AV.agg [AV.int IntKind.i64 (at' l p).1, AV.bool (Wr.s (at' l p)).1, AV.w64 (Sl.e (Wr.s (at' l p))).1, AV.w64 (Sl.e (Wr.s (at' l p))).2, AV.w64 (Sl.e (Wr.s (at' l p))).3, AV.w64 (Sl.e (Wr.s (at' l p))).4, AV.int IntKind.i64 (Sl.e (Wr.s (at' l p))).5, AV.int IntKind.i64 (Sl.e (Wr.s (at' l p))).6]) ∧ ((List.length (of15R j l p) + (1 : Nat)) * (72 : Nat) ≤ (140737488355328 : Nat) ∧ List.length (of15R j l p) + (1 : Nat) ≤ (9223372036854775807 : Nat) ∧ (0 : Nat) + (1 : Nat) ≤ List.length [AV.agg [AV.int IntKind.i64 j, AV.int IntKind.i64 (at' l p).1, AV.bool (Wr.s (at' l p)).1, AV.w64 (Sl.e (Wr.s (at' l p))).1, AV.w64 (Sl.e (Wr.s (at' l p))).2, AV.w64 (Sl.e (Wr.s (at' l p))).3, AV.w64 (Sl.e (Wr.s (at' l p))).4, AV.int IntKind.i64 (Sl.e (Wr.s (at' l p))).5, AV.int IntKind.i64 (Sl.e (Wr.s (at' l p))).6]] ∧ List.length (of15R j l p) ≤ List.length (List.map mvE (ofM j (List.take p l)))) ∧ List.take (List.length (of15R j l p)) (List.map mvE (ofM j (List.take p l))) ++ [AV.agg [AV.int IntKind.i64 j, AV.int IntKind.i64 (at' l p).1, AV.bool (Wr.s (at' l p)).1, AV.w64 (Sl.e (Wr.s (at' l p))).1, AV.w64 (Sl.e (Wr.s (at' l p))).2, AV.w64 (Sl.e (Wr.s (at' l p))).3, AV.w64 (Sl.e (Wr.s (at' l p))).4, AV.int IntKind.i64 (Sl.e (Wr.s (at' l p))).5, AV.int IntKind.i64 (Sl.e (Wr.s (at' l p))).6]] = of15R j l (p + (1 : Nat)) ∧ inRange IntKind.i64 ((↑p : Int) + (1 : Int)) ∧ ∃ (p' : Nat), St.mk [AV.int IntKind.i64 j, AV.any, AV.any, AV.any, AV.any, AV.vsl ((0 : Nat) + (1 : Nat)) (0 : Nat) (List.length (of15R j l p) + (1 : Nat)), AV.any, AV.any, AV.vsl (0 : Nat) (0 : Nat) (List.length (List.map wrE l)), AV.int IntKind.i64 (↑(List.length (List.map wrE l)) : Int), AV.int IntKind.i64 ((↑p : Int) + (1 : Int)), AV.any, AV.any, AV.any, AV.any, AV.any, AV.any, AV.any, AV.any, AV.any, AV.any, AV.any] [some (Blk.mk false (37 : TypeId) (8 : Nat) true (List.map wrE l)), some (Blk.mk true (39 : Nat) (9 : Nat) true (of15R j l (p + (1 : Nat))))] = of15St j l p' ∧ Nat.le p' (List.length l) ∧ List.length l + (1 : Nat) - p' < List.length l + (1 : Nat) - p) ∧ (Decidable.decide ((↑p : Int) < (↑(List.length (List.map wrE l)) : Int)) = false → List.length (of15R j l p) = List.length (List.map mvE (ofM j l)) ∧ some (Blk.mk true (39 : TypeId) (9 : Nat) true (of15R j l p)) = some (Blk.mk true (39 : TypeId) (9 : Nat) true (List.map mvE (ofM j l))))) := by kernel_rfl

theorem gof15_ok : SpecOK Try.prog 22 (genSpec [none, pWr] gof15F) := by
  refine genSpec_ok none_ok fun l R hF => ?_
  unfold gof15F at hF
  split at hF
  · rename_i j r_l
    obtain ⟨hr_l, hl, hF⟩ := hF
    generalize deW r_l = l at hr_l hl hF
    subst hr_l
    refine ⟨_, hF, trivial, (of15H j l), ?_⟩
    show run [] Try.prog _ [.int .i64 j, .vsl 0 0 (l.map wrE).length] [some ⟨false, (pWr.getD (0, 0)).1, (pWr.getD (0, 0)).2, true, (l.map wrE)⟩] _ _
    rw [gof15_run]
    have hlm : (l.map wrE).length = l.length := List.length_map _
    refine ⟨⟨rfl, Nat.zero_le _⟩, ?_⟩
    intro p (hp0 : p ≤ l.length)
    have hn := of15_len (j := j) hp0
    refine ⟨fun hlt => ?_, fun hge => ?_⟩
    · have hp : p < l.length := by have := of_decide_eq_true hlt; omega
      have B2 : 0 ≤ (p : Int) ∧ (p : Int) < ((l.map wrE).length : Int) := by omega
      have hs : List.take (of15R j l p).length (of15R j l p) ++ [mvE ⟨j, at' l p⟩] = of15R j l (p + 1) := by rw [List.take_length]; exact of15_succ hp
      refine ⟨by omega, read_rows B2.1 B2.2 (wr_whole _), ⟨by omega, by omega, Nat.le_refl _, Nat.le_refl _⟩, hs, inR (by omega) (by omega), p + 1, ?_, hp, by omega⟩
      unfold of15St
      rw [of15_len (show p + 1 ≤ l.length from hp), hn]
      rfl
    · have hp : p = l.length := by have := of_decide_eq_false hge; omega
      subst hp
      have e : of15R j l l.length = List.map mvE (ofM j l) := by unfold of15R; rw [List.take_length]
      rw [e]
      exact ⟨rfl, rfl⟩
  · exact hF.elim


end Go.Proofs.Ytbkaibciiogdkaa.L1
end

section
/-
  Layer 15: what the document fixes of three moves, over the program.
-/
namespace Go.Proofs.Ytbkaibciiogdkaa.L1
open Go.Sx Go.Sx.M

theorem awake15_ok : SpecOK Try.prog 9 awakeSpec :=
  awake15_of fun e he => by
    simp only [awake15Cs, List.mem_cons, List.not_mem_nil, or_false] at he
    subst he
    exact gof15_ok

end Go.Proofs.Ytbkaibciiogdkaa.L1
end

