/-
  Texts in one: L5T L5A L5B L5C L5D L5P.
-/
import Derived.Test.YtnjbgbdcbejciaaGreatR
import Derived.Test.YtnjbgbdcbejciaaGreatL4B
import Derived.Test.YtnjbgbdcbejciaaGreatL1a
import Derived.Test.YtnjbgbdcbejciaaGreatMa

section
/-
  Layer 5: entries as values of the calculus.
-/
namespace Go.Proofs.YtnjbgbdcbejciaaGreat.L1
open Go.Sx Go.Sx.M

/-- An entry's cells. -/
def enE (x : En) : AV := .agg [.w64 x.v, .w64 x.w, .w64 x.m, .w64 x.n, .int .i64 x.len, .int .i64 x.act]

/-- The entry of such cells. -/
def deE1 (x : AV) : En := ⟨cW (x.cells.getD 0 .any), cW (x.cells.getD 1 .any), cW (x.cells.getD 2 .any), cW (x.cells.getD 3 .any), cI (x.cells.getD 4 .any), cI (x.cells.getD 5 .any)⟩

/-- The entries of a row. -/
def deE (l : List AV) : List En := l.map deE1

theorem deE_map (l : List En) : deE (l.map enE) = l := by
  unfold deE
  rw [List.map_map]
  exact List.map_id l

/-- Rows of the document's entries. -/
def pRefE : Par := some (53, 6)

theorem ref_word (x : En) : partOf Tryz.prog 51 (enE x).cells 0 = some (.agg [.w64 x.v, .w64 x.w, .w64 x.m, .w64 x.n]) := by kernel_rfl
theorem ref_whole (x : En) : partOf Tryz.prog 53 (enE x).cells 0 = some (enE x) := by kernel_rfl
theorem ref_len (x : En) : partOf Tryz.prog 3 (enE x).cells 4 = some (.int .i64 x.len) := by kernel_rfl
theorem ref_act (x : En) : partOf Tryz.prog 3 (enE x).cells 5 = some (.int .i64 x.act) := by kernel_rfl

end Go.Proofs.YtnjbgbdcbejciaaGreat.L1
end

section
/-
  Layer 5: entries as values of the calculus; contracts of the document's Above, First, Best, Tell, Ordered, Compare.
-/
namespace Go.Proofs.YtnjbgbdcbejciaaGreat.L1
open Go.Sx Go.Sx.M

/-- Its word, as a value. -/
def wdE (x : En) : AV := .agg [.w64 x.v, .w64 x.w, .w64 x.m, .w64 x.n]

end Go.Proofs.YtnjbgbdcbejciaaGreat.L1
end

section
/-
  Layer 5: contracts of the document's Tell, Ordered, Compare; of the law's One and Of.
-/
namespace Go.Proofs.YtnjbgbdcbejciaaGreat.L1
open Go.Sx Go.Sx.M

def ofSt (F : List En → List AV) (l : List En) (p : Nat) : St :=
  ⟨[.any, .any, .any, .vsl 1 0 p, .any, .any, .vsl 0 0 (l.map enE).length, .int .i64 (l.map enE).length, .int .i64 p, .any, .any, .any, .any, .any, .any, .any, .any, .any, .any], [some ⟨false, 46, 6, true, l.map enE⟩, some ⟨true, 53, 6, true, F (l.take p)⟩]⟩
def ofM0 : Modes := ⟨[0, 0, 0, 1, 0, 0, 1, 1, 2, 0, 0, 0, 0, 0, 0, 0, 0, 0, 0], [], [], [], [(3, 53, 6)]⟩
def ofM : Modes := ⟨[0, 0, 0, 1, 0, 0, 1, 1, 1, 0, 0, 0, 0, 0, 0, 0, 0, 0, 0], [], [], [], []⟩
def ofH (F : List En → List AV) (l : List En) : List Hint := [.linv _ 0 (ofSt F l) (fun p => p ≤ l.length) (fun p => l.length + 1 - p) ofM0 ofM ofM (fun _ => []) fun p =>
  [.fork [.dy, .cell (enE (at' l p)), .rows (F (l.take (p + 1))), .nw] []]]

def rtellF : List Arg → (Res → Prop) → Prop
  | [.row r_l, .v (.agg [.w64 a, .w64 b])], R => r_l = (deE r_l).map enE ∧ (deE r_l).length ≤ 9223372036854775807 ∧ R (.v (.int .i64 (tlI (deE r_l) a b)))
  | _, _ => False

def rorderedF : List Arg → (Res → Prop) → Prop
  | [.row r_l], R => r_l = (deE r_l).map enE ∧ (deE r_l).length ≤ 9223372036854775807 ∧ R (.v (.bool (orE (deE r_l))))
  | _, _ => False

def rcompareF : List Arg → (Res → Prop) → Prop
  | [.v (.agg [.w64 v, .w64 w, .w64 m, .w64 n, .int .i64 k, .int .i64 j]), .v (.agg [.w64 c, .w64 d, .w64 p, .w64 q, .int .i64 s, .int .i64 t])], R => R (.v (.int .i64 (cpE ⟨v, w, m, n, k, j⟩ ⟨c, d, p, q, s, t⟩)))
  | _, _ => False

noncomputable def rcompareCs : List (FuncId × Sx.Spec) := [(52, genSpec [none, none] cmpF)]

theorem rcompare_run (v w m n : BitVec 64) (k j : Int) (c d p q : BitVec 64) (s t : Int) (r : AV) : run rcompareCs Tryz.prog 49 [.agg [.w64 v, .w64 w, .w64 m, .w64 n, .int .i64 k, .int .i64 j], .agg [.w64 c, .w64 d, .w64 p, .w64 q, .int .i64 s, .int .i64 t]] [] [.fork [.fork [] []] [.fork [.fork [.fork [] [.br true, .fork [] []]] [.br false]] [.br false, .br false]]] (yields (.v r)) =
    (((k != s) = true → (Decidable.decide (k > s) = true → AV.int IntKind.i64 (-1 : Int) = r) ∧ (Decidable.decide (k > s) = false → AV.int IntKind.i64 (1 : Int) = r)) ∧ ((k != s) = false → ((cmpV (V v w) (V c d) == (0 : Int)) = true → ((cmpV (V m n) (V p q) == (0 : Int)) = true → (Decidable.decide (j < t) = true → AV.int IntKind.i64 (-1 : Int) = r) ∧ (Decidable.decide (j < t) = false → (cmpV (V m n) (V p q) == (0 : Int)) = true ∧ (Decidable.decide (j > t) = true → AV.int IntKind.i64 (1 : Int) = r) ∧ (Decidable.decide (j > t) = false → AV.int IntKind.i64 (cmpV (V m n) (V p q)) = r))) ∧ ((cmpV (V m n) (V p q) == (0 : Int)) = false → (cmpV (V m n) (V p q) == (0 : Int)) = false ∧ AV.int IntKind.i64 (cmpV (V m n) (V p q)) = r)) ∧ ((cmpV (V v w) (V c d) == (0 : Int)) = false → (cmpV (V v w) (V c d) == (0 : Int)) = false ∧ (cmpV (V v w) (V c d) == (0 : Int)) = false ∧ AV.int IntKind.i64 (cmpV (V v w) (V c d)) = r))) := by kernel_rfl

theorem rcompareCs_ok : ∀ e ∈ rcompareCs, SpecOK Tryz.prog e.1 e.2 := by
  intro e he
  simp only [rcompareCs, List.mem_cons, List.not_mem_nil, or_false] at he
  rcases he with rfl
  · exact cmp_ok

theorem rcompare_ok : SpecOK Tryz.prog 49 (genSpec [none, none] rcompareF) := by
  refine genSpec_ok (run_ok (l := rcompareCs) rcompareCs_ok mixed noNG) fun l R hF => ?_
  unfold rcompareF at hF
  split at hF
  · rename_i v w m n k j c d p q s t
    refine ⟨_, hF, rfl, [.fork [.fork [] []] [.fork [.fork [.fork [] [.br true, .fork [] []]] [.br false]] [.br false, .br false]]], ?_⟩
    show run rcompareCs Tryz.prog _ [.agg [.w64 v, .w64 w, .w64 m, .w64 n, .int .i64 k, .int .i64 j], .agg [.w64 c, .w64 d, .w64 p, .w64 q, .int .i64 s, .int .i64 t]] [] _ _
    rw [rcompare_run]
    have key : ∀ x : Int, cpE ⟨v, w, m, n, k, j⟩ ⟨c, d, p, q, s, t⟩ = x → AV.int .i64 x = .int .i64 (cpE ⟨v, w, m, n, k, j⟩ ⟨c, d, p, q, s, t⟩) := fun x h => by rw [h]
    have e0 : cpE ⟨v, w, m, n, k, j⟩ ⟨c, d, p, q, s, t⟩ = orZ (cmpZ s k) (orZ (cmpV (V v w) (V c d)) (orZ (cmpV (V m n) (V p q)) (cmpZ j t))) := rfl
    refine ⟨fun h => ⟨fun h1 => key _ ?_, fun h1 => key _ ?_⟩, fun h => ⟨fun h1 => ⟨fun h2 => ⟨fun h3 => key _ ?_, fun h3 => ⟨h2, fun h4 => key _ ?_, fun h4 => key _ ?_⟩⟩, fun h2 => ⟨h2, key _ ?_⟩⟩, fun h1 => ⟨h1, h1, key _ ?_⟩⟩⟩
    all_goals
      rw [e0]
      simp only [bne_iff_ne, ne_eq, bne_eq_false_iff_eq, beq_iff_eq, beq_eq_false_iff_ne, decide_eq_true_eq, decide_eq_false_iff_not] at *
      unfold orZ cmpZ
    · rw [if_neg (by rw [if_pos (by omega)]; omega), if_pos (by omega)]
    · rw [if_neg (by rw [if_neg (by omega), if_pos (by omega)]; omega), if_neg (by omega), if_pos (by omega)]
    · rw [if_pos (by rw [if_neg (by omega), if_neg (by omega)]), if_pos h1, if_pos h2, if_pos h3]
    · rw [if_pos (by rw [if_neg (by omega), if_neg (by omega)]), if_pos h1, if_pos h2, if_neg h3, if_pos (by omega)]
    · rw [if_pos (by rw [if_neg (by omega), if_neg (by omega)]), if_pos h1, if_pos h2, if_neg h3, if_neg (by omega), h2]
    · rw [if_pos (by rw [if_neg (by omega), if_neg (by omega)]), if_pos h1, if_neg h2]
    · rw [if_pos (by rw [if_neg (by omega), if_neg (by omega)]), if_neg h1]
  · exact hF.elim


theorem en_whole (x : En) : partOf Tryz.prog 46 (enE x).cells 0 = some (enE x) := by kernel_rfl

def pEn : Par := some (46, 6)

def of5F : List Arg → (Res → Prop) → Prop
  | [.row r_l], R => r_l = (deE r_l).map enE ∧ (deE r_l).length ≤ 1000000 ∧ R (.vrow 53 6 ((deE r_l).map enE))
  | _, _ => False

theorem of5_run (l : List En) (F : List En → List AV) (es : List AV) : run [] Tryz.prog 15 [.vsl 0 0 (l.map enE).length] [some ⟨false, (pEn.getD (0, 0)).1, (pEn.getD (0, 0)).2, true, (l.map enE)⟩] (ofH F l) (yields (.vrow 53 6 es)) =
    ((St.mk [.any, .any, .any, AV.vsl (List.length [some (Blk.mk false (46 : TypeId) 6 true (List.map enE l))]) 0 0, .any, .any, AV.vsl 0 0 (List.length (List.map enE l)), AV.int IntKind.i64 (↑(List.length (List.map enE l)) : Int), AV.int IntKind.i64 0, .any, .any, .any, .any, .any, .any, .any, .any, .any, .any] ([some (Blk.mk false (46 : TypeId) 6 true (List.map enE l))] ++ [some (Blk.mk true (53 : TypeId) 6 true [])]) = ofSt F l 0 ∧ Nat.le 0 (List.length l)) ∧ ∀ (p : Nat), Nat.le p (List.length l) → (Decidable.decide ((↑p : Int) < (↑(List.length (List.map enE l)) : Int)) = true → ((0 : Int) ≤ (↑p : Int) ∧ (↑p : Int) < (↑(List.length (List.map enE l)) : Int)) ∧ Blk.read Proofs.Tryz.prog (Blk.mk false (46 : TypeId) 6 true (List.map enE l)) 46 ((0 : Nat) + Int.toNat (↑p : Int)) 0 = some (AV.agg [AV.w64 (at' l p).1, AV.w64 (at' l p).2, AV.w64 (at' l p).3, AV.w64 (at' l p).4, AV.int IntKind.i64 (at' l p).5, AV.int IntKind.i64 (at' l p).6]) ∧ ((p + (1 : Nat)) * (48 : Nat) ≤ (140737488355328 : Nat) ∧ p + (1 : Nat) ≤ (9223372036854775807 : Nat) ∧ (0 : Nat) + (1 : Nat) ≤ List.length [AV.agg [AV.w64 (at' l p).1, AV.w64 (at' l p).2, AV.w64 (at' l p).3, AV.w64 (at' l p).4, AV.int IntKind.i64 (at' l p).5, AV.int IntKind.i64 (at' l p).6]] ∧ p ≤ List.length (F (List.take p l))) ∧ List.take p (F (List.take p l)) ++ [AV.agg [AV.w64 (at' l p).1, AV.w64 (at' l p).2, AV.w64 (at' l p).3, AV.w64 (at' l p).4, AV.int IntKind.i64 (at' l p).5, AV.int IntKind.i64 (at' l p).6]] = F (List.take (p + (1 : Nat)) l) ∧ inRange IntKind.i64 ((↑p : Int) + (1 : Int)) ∧ ∃ (p' : Nat), St.mk [.any, .any, .any, AV.vsl ((0 : Nat) + (1 : Nat)) 0 (p + (1 : Nat)), .any, .any, AV.vsl 0 0 (List.length (List.map enE l)), AV.int IntKind.i64 (↑(List.length (List.map enE l)) : Int), AV.int IntKind.i64 ((↑p : Int) + (1 : Int)), .any, .any, .any, .any, .any, .any, .any, .any, .any, .any] [some (Blk.mk false (46 : TypeId) 6 true (List.map enE l)), some (Blk.mk true 53 6 true (F (List.take (p + (1 : Nat)) l)))] = ofSt F l p' ∧ Nat.le p' (List.length l) ∧ List.length l + (1 : Nat) - p' < List.length l + (1 : Nat) - p) ∧ (Decidable.decide ((↑p : Int) < (↑(List.length (List.map enE l)) : Int)) = false → p = List.length es ∧ some (Blk.mk true (53 : TypeId) 6 true (F (List.take p l))) = some (Blk.mk true (53 : TypeId) 6 true es))) := by kernel_rfl

theorem of5_ok : SpecOK Tryz.prog 15 (genSpec [pEn] of5F) := by
  refine genSpec_ok none_ok fun l R hF => ?_
  unfold of5F at hF
  split at hF
  · rename_i r_l
    obtain ⟨hr_l, hl, hF⟩ := hF
    generalize deE r_l = l at hr_l hl hF
    subst hr_l
    refine ⟨_, hF, trivial, (ofH (List.map enE) l), ?_⟩
    show run [] Tryz.prog _ [.vsl 0 0 (l.map enE).length] [some ⟨false, (pEn.getD (0, 0)).1, (pEn.getD (0, 0)).2, true, (l.map enE)⟩] _ _
    rw [of5_run]
    have lt : ∀ p, p ≤ l.length → ((l.take p).map enE).length = p := fun p hp => by rw [List.length_map, List.length_take]; omega
    refine ⟨⟨rfl, Nat.zero_le _⟩, ?_⟩
    intro p hp
    have hp : p ≤ l.length := hp
    refine ⟨fun hlt => ?_, fun hge => ?_⟩
    · have hlt : p < l.length := by simp only [decide_eq_true_eq, List.length_map] at hlt; omega
      have B : 0 ≤ (p : Int) ∧ (p : Int) < ((l.map enE).length : Int) := by rw [List.length_map]; omega
      refine ⟨B, read_rows B.1 B.2 (en_whole _), ⟨by omega, by omega, by simp, by rw [lt p hp]; omega⟩, ?_, inR (by omega) (by omega), p + 1, rfl, (by omega : p + 1 ≤ l.length), by omega⟩
      rw [List.take_of_length_le (by rw [lt p hp]; omega), List.take_add_one, at_get hlt, List.map_append]
      rfl
    · have hp : p = l.length := by simp only [decide_eq_false_iff_not, List.length_map] at hge; omega
      subst hp
      rw [List.take_length, List.length_map]
      exact ⟨rfl, rfl⟩
  · exact hF.elim


end Go.Proofs.YtnjbgbdcbejciaaGreat.L1
end

section
/-
  Layer 5: the contract of the document's Sort.
-/
namespace Go.Proofs.YtnjbgbdcbejciaaGreat.L1
open Go.Sx Go.Sx.M

/-- What is sorted of the first p. -/
def soL (l : List En) (p : Nat) : List En := srE (l.take p)

def soSt (F : List En → List AV) (l : List En) (p : Nat) : St :=
  ⟨[.vsl 0 0 (l.map enE).length, .any, .any, .vsl 1 0 p, .int .i64 p, .any, .any, .any, .any, .any, .any, .any, .any, .any, .any, .any, .any, .any, .any, .any, .any, .any, .any, .any, .any, .any, .any, .any, .any, .any, .any, .any, .any, .any, .any, .any, .any, .any, .any, .any, .any, .any, .any, .any, .any, .any, .any, .any], [some ⟨false, 53, 6, true, l.map enE⟩, some ⟨true, 53, 6, true, F (soL l p)⟩]⟩
def soSt2 (F : List En → List AV) (l : List En) (p k : Nat) : St :=
  ⟨[.vsl 0 0 (l.map enE).length, .any, .any, .vsl 1 0 p, .int .i64 p, .int .i64 k, .any, .any, .any, .any, .any, .any, .any, .any, .any, .any, .any, .any, .any, .any, .any, .any, .any, .any, .any, .any, .any, .any, .any, .any, .any, .any, .any, .any, .any, .any, .any, .any, .any, .any, .any, .any, .any, .any, .any, .any, .any, .any], [some ⟨false, 53, 6, true, l.map enE⟩, some ⟨true, 53, 6, true, F (soL l p)⟩]⟩
def soM0 : Modes := ⟨[1, 0, 0, 1, 2, 0, 0, 0, 0, 0, 0, 0, 0, 0, 0, 0, 0, 0, 0, 0, 0, 0, 0, 0, 0, 0, 0, 0, 0, 0, 0, 0, 0, 0, 0, 0, 0, 0, 0, 0, 0, 0, 0, 0, 0, 0, 0, 0], [], [], [], [(3, 53, 6)]⟩
def soM : Modes := ⟨[1, 0, 0, 1, 1, 0, 0, 0, 0, 0, 0, 0, 0, 0, 0, 0, 0, 0, 0, 0, 0, 0, 0, 0, 0, 0, 0, 0, 0, 0, 0, 0, 0, 0, 0, 0, 0, 0, 0, 0, 0, 0, 0, 0, 0, 0, 0, 0], [], [], [], []⟩
def soN0 : Modes := ⟨[1, 0, 0, 1, 1, 2, 0, 0, 0, 0, 0, 0, 0, 0, 0, 0, 0, 0, 0, 0, 0, 0, 0, 0, 0, 0, 0, 0, 0, 0, 0, 0, 0, 0, 0, 0, 0, 0, 0, 0, 0, 0, 0, 0, 0, 0, 0, 0], [], [], [], []⟩
def soN : Modes := ⟨[1, 0, 0, 1, 1, 1, 0, 0, 0, 0, 0, 0, 0, 0, 0, 0, 0, 0, 0, 0, 0, 0, 0, 0, 0, 0, 0, 0, 0, 0, 0, 0, 0, 0, 0, 0, 0, 0, 0, 0, 0, 0, 0, 0, 0, 0, 0, 0], [], [], [], []⟩
def soI2 (l : List En) (p k : Nat) : Prop := k ≤ p ∧ ∀ j, j < k → cpE (at' (soL l p) j) (at' l p) ≤ 0
def soH (F : List En → List AV) (l : List En) : List Hint := [.linv _ 0 (soSt F l) (fun p => p ≤ l.length) (fun p => l.length + 1 - p) soM0 soM soM (fun _ => []) fun p =>
  [.fork [.linv _ 0 (soSt2 F l p) (soI2 l p) (fun k => l.length + 1 - k) soN0 soN soN
      (fun k => [.dy, .cell (enE (at' l p)), .dy, .rows (F (at' l p :: (soL l p).drop k)), .dy, .rows (F ((soL l p).take k)), .rows (F ((soL l p).take k ++ at' l p :: (soL l p).drop k)), .nw])
      fun k => [.fork [.dy, .cell (enE (at' (soL l p) k)), .dy, .cell (enE (at' l p)), .fork [.nw] []] []]] []]]

def rsortF : List Arg → (Res → Prop) → Prop
  | [.row r_l], R => r_l = (deE r_l).map enE ∧ (deE r_l).length ≤ 1000000 ∧ R (.vrow 53 6 ((srE (deE r_l)).map enE))
  | _, _ => False

noncomputable def rsortCs : List (FuncId × Sx.Spec) := [(49, genSpec [none, none] rcompareF)]

theorem rsort_run (l : List En) (F : List En → List AV) (es : List AV) : run rsortCs Tryz.prog 22 [.vsl 0 0 (l.map enE).length] [some ⟨false, (pRefE.getD (0, 0)).1, (pRefE.getD (0, 0)).2, true, (l.map enE)⟩] (soH F l) (yields (.vrow 53 6 es)) =
    ((St.mk [AV.vsl 0 0 (List.length (List.map enE l)), .any, .any, AV.vsl (List.length [some (Blk.mk false (53 : TypeId) 6 true (List.map enE l))]) 0 0, AV.int IntKind.i64 0, .any, .any, .any, .any, .any, .any, .any, .any, .any, .any, .any, .any, .any, .any, .any, .any, .any, .any, .any, .any, .any, .any, .any, .any, .any, .any, .any, .any, .any, .any, .any, .any, .any, .any, .any, .any, .any, .any, .any, .any, .any, .any, .any] ([some (Blk.mk false (53 : TypeId) 6 true (List.map enE l))] ++ [some (Blk.mk true (53 : TypeId) 6 true [])]) = soSt F l 0 ∧ Nat.le 0 (List.length l)) ∧ ∀ (p : Nat), Nat.le p (List.length l) → (Decidable.decide ((↑p : Int) < (↑(List.length (List.map enE l)) : Int)) = true → (St.mk [AV.vsl 0 0 (List.length (List.map enE l)), .any, .any, AV.vsl ((0 : Nat) + (1 : Nat)) 0 p, AV.int IntKind.i64 (↑p : Int), AV.int IntKind.i64 0, .any, .any, .any, .any, .any, .any, .any, .any, .any, .any, .any, .any, .any, .any, .any, .any, .any, .any, .any, .any, .any, .any, .any, .any, .any, .any, .any, .any, .any, .any, .any, .any, .any, .any, .any, .any, .any, .any, .any, .any, .any, .any] [some (Blk.mk false (53 : TypeId) 6 true (List.map enE l)), some (Blk.mk true (53 : TypeId) 6 true (F (soL l p)))] = soSt2 F l p 0 ∧ soI2 l p 0) ∧ ∀ (p_1 : Nat), soI2 l p p_1 → (Decidable.decide ((↑p_1 : Int) < (↑p : Int)) = true → ((0 : Int) ≤ (↑p_1 : Int) ∧ (↑p_1 : Int) < (↑p : Int)) ∧ Blk.read Proofs.Tryz.prog (Blk.mk true (53 : TypeId) 6 true (F (soL l p))) 53 ((0 : Nat) + Int.toNat (↑p_1 : Int)) 0 = some (AV.agg [AV.w64 (at' (soL l p) p_1).1, AV.w64 (at' (soL l p) p_1).2, AV.w64 (at' (soL l p) p_1).3, AV.w64 (at' (soL l p) p_1).4, AV.int IntKind.i64 (at' (soL l p) p_1).5, AV.int IntKind.i64 (at' (soL l p) p_1).6]) ∧ ((0 : Int) ≤ (↑p : Int) ∧ (↑p : Int) < (↑(List.length (List.map enE l)) : Int)) ∧ Blk.read Proofs.Tryz.prog (Blk.mk false (53 : TypeId) 6 true (List.map enE l)) 53 ((0 : Nat) + Int.toNat (↑p : Int)) 0 = some (AV.agg [AV.w64 (at' l p).1, AV.w64 (at' l p).2, AV.w64 (at' l p).3, AV.w64 (at' l p).4, AV.int IntKind.i64 (at' l p).5, AV.int IntKind.i64 (at' l p).6]) ∧ (Decidable.decide (cpE (En.mk (at' (soL l p) p_1).1 (at' (soL l p) p_1).2 (at' (soL l p) p_1).3 (at' (soL l p) p_1).4 (at' (soL l p) p_1).5 (at' (soL l p) p_1).6) (En.mk (at' l p).1 (at' l p).2 (at' l p).3 (at' l p).4 (at' l p).5 (at' l p).6) ≤ (0 : Int)) = true → inRange IntKind.i64 ((↑p_1 : Int) + (1 : Int)) ∧ ∃ (p' : Nat), St.mk [AV.vsl 0 0 (List.length (List.map enE l)), .any, .any, AV.vsl ((0 : Nat) + (1 : Nat)) 0 p, AV.int IntKind.i64 (↑p : Int), AV.int IntKind.i64 ((↑p_1 : Int) + (1 : Int)), .any, .any, .any, .any, .any, .any, .any, .any, .any, .any, .any, .any, .any, .any, .any, .any, .any, .any, .any, .any, .any, .any, .any, .any, .any, .any, .any, .any, .any, .any, .any, .any, .any, .any, .any, .any, .any, .any, .any, .any, .any, .any] [some (Blk.mk false (53 : TypeId) 6 true (List.map enE l)), some (Blk.mk true (53 : TypeId) 6 true (F (soL l p)))] = soSt2 F l p p' ∧ soI2 l p p' ∧ List.length l + (1 : Nat) - p' < List.length l + (1 : Nat) - p_1) ∧ (Decidable.decide (cpE (En.mk (at' (soL l p) p_1).1 (at' (soL l p) p_1).2 (at' (soL l p) p_1).3 (at' (soL l p) p_1).4 (at' (soL l p) p_1).5 (at' (soL l p) p_1).6) (En.mk (at' l p).1 (at' l p).2 (at' l p).3 (at' l p).4 (at' l p).5 (at' l p).6) ≤ (0 : Int)) = false → ((0 : Int) ≤ (↑p : Int) ∧ (↑p : Int) < (↑(List.length (List.map enE l)) : Int)) ∧ Blk.read Proofs.Tryz.prog (Blk.mk false (53 : TypeId) 6 true (List.map enE l)) 53 ((0 : Nat) + Int.toNat (↑p : Int)) 0 = some (AV.agg [AV.w64 (at' l p).1, AV.w64 (at' l p).2, AV.w64 (at' l p).3, AV.w64 (at' l p).4, AV.int IntKind.i64 (at' l p).5, AV.int IntKind.i64 (at' l p).6]) ∧ ((0 : Int) ≤ (↑p_1 : Int) ∧ (↑p_1 : Int) < (↑(p + (1 : Nat)) : Int)) ∧ (((1 : Nat) + (p - Int.toNat (↑p_1 : Int))) * (48 : Nat) ≤ (140737488355328 : Nat) ∧ (1 : Nat) + (p - Int.toNat (↑p_1 : Int)) ≤ (9223372036854775807 : Nat) ∧ (0 : Nat) + Int.toNat (↑p_1 : Int) + (p - Int.toNat (↑p_1 : Int)) ≤ List.length (F (soL l p)) ∧ (1 : Nat) ≤ List.length [AV.agg [AV.w64 (at' l p).1, AV.w64 (at' l p).2, AV.w64 (at' l p).3, AV.w64 (at' l p).4, AV.int IntKind.i64 (at' l p).5, AV.int IntKind.i64 (at' l p).6]]) ∧ [AV.agg [AV.w64 (at' l p).1, AV.w64 (at' l p).2, AV.w64 (at' l p).3, AV.w64 (at' l p).4, AV.int IntKind.i64 (at' l p).5, AV.int IntKind.i64 (at' l p).6]] ++ List.take (p - Int.toNat (↑p_1 : Int)) (List.drop ((0 : Nat) + Int.toNat (↑p_1 : Int)) (F (soL l p))) = F (at' l p :: List.drop p_1 (soL l p)) ∧ ((0 : Int) ≤ (↑p_1 : Int) ∧ (↑p_1 : Int) < (↑(p + (1 : Nat)) : Int)) ∧ (((0 : Nat) + (Int.toNat (↑p_1 : Int) - (0 : Nat))) * (48 : Nat) ≤ (140737488355328 : Nat) ∧ (0 : Nat) + (Int.toNat (↑p_1 : Int) - (0 : Nat)) ≤ (9223372036854775807 : Nat) ∧ (0 : Nat) + (0 : Nat) + (Int.toNat (↑p_1 : Int) - (0 : Nat)) ≤ List.length (F (soL l p)) ∧ (0 : Nat) ≤ List.length ([] : List AV)) ∧ [] ++ List.take (Int.toNat (↑p_1 : Int) - (0 : Nat)) (List.drop ((0 : Nat) + (0 : Nat)) (F (soL l p))) = F (List.take p_1 (soL l p)) ∧ (((0 : Nat) + (Int.toNat (↑p_1 : Int) - (0 : Nat)) + ((1 : Nat) + (p - Int.toNat (↑p_1 : Int)))) * (48 : Nat) ≤ (140737488355328 : Nat) ∧ (0 : Nat) + (Int.toNat (↑p_1 : Int) - (0 : Nat)) + ((1 : Nat) + (p - Int.toNat (↑p_1 : Int))) ≤ (9223372036854775807 : Nat) ∧ (0 : Nat) + ((1 : Nat) + (p - Int.toNat (↑p_1 : Int))) ≤ List.length (F (at' l p :: List.drop p_1 (soL l p))) ∧ (0 : Nat) + (Int.toNat (↑p_1 : Int) - (0 : Nat)) ≤ List.length (F (List.take p_1 (soL l p)))) ∧ List.take ((0 : Nat) + (Int.toNat (↑p_1 : Int) - (0 : Nat))) (F (List.take p_1 (soL l p))) ++ List.take ((1 : Nat) + (p - Int.toNat (↑p_1 : Int))) (List.drop 0 (F (at' l p :: List.drop p_1 (soL l p)))) = F (List.take p_1 (soL l p) ++ at' l p :: List.drop p_1 (soL l p)) ∧ inRange IntKind.i64 ((↑p : Int) + (1 : Int)) ∧ ∃ (p' : Nat), St.mk [AV.vsl 0 0 (List.length (List.map enE l)), .any, .any, AV.vsl ((0 : Nat) + (1 : Nat)) 0 ((0 : Nat) + (Int.toNat (↑p_1 : Int) - (0 : Nat)) + ((1 : Nat) + (p - Int.toNat (↑p_1 : Int)))), AV.int IntKind.i64 ((↑p : Int) + (1 : Int)), .any, .any, .any, .any, .any, .any, .any, .any, .any, .any, .any, .any, .any, .any, .any, .any, .any, .any, .any, .any, .any, .any, .any, .any, .any, .any, .any, .any, .any, .any, .any, .any, .any, .any, .any, .any, .any, .any, .any, .any, .any, .any, .any] [some (Blk.mk false (53 : TypeId) 6 true (List.map enE l)), some (Blk.mk true 53 6 true (F (List.take p_1 (soL l p) ++ at' l p :: List.drop p_1 (soL l p))))] = soSt F l p' ∧ Nat.le p' (List.length l) ∧ List.length l + (1 : Nat) - p' < List.length l + (1 : Nat) - p)) ∧ (Decidable.decide ((↑p_1 : Int) < (↑p : Int)) = false → ((0 : Int) ≤ (↑p : Int) ∧ (↑p : Int) < (↑(List.length (List.map enE l)) : Int)) ∧ Blk.read Proofs.Tryz.prog (Blk.mk false (53 : TypeId) 6 true (List.map enE l)) 53 ((0 : Nat) + Int.toNat (↑p : Int)) 0 = some (AV.agg [AV.w64 (at' l p).1, AV.w64 (at' l p).2, AV.w64 (at' l p).3, AV.w64 (at' l p).4, AV.int IntKind.i64 (at' l p).5, AV.int IntKind.i64 (at' l p).6]) ∧ ((0 : Int) ≤ (↑p_1 : Int) ∧ (↑p_1 : Int) < (↑(p + (1 : Nat)) : Int)) ∧ (((1 : Nat) + (p - Int.toNat (↑p_1 : Int))) * (48 : Nat) ≤ (140737488355328 : Nat) ∧ (1 : Nat) + (p - Int.toNat (↑p_1 : Int)) ≤ (9223372036854775807 : Nat) ∧ (0 : Nat) + Int.toNat (↑p_1 : Int) + (p - Int.toNat (↑p_1 : Int)) ≤ List.length (F (soL l p)) ∧ (1 : Nat) ≤ List.length [AV.agg [AV.w64 (at' l p).1, AV.w64 (at' l p).2, AV.w64 (at' l p).3, AV.w64 (at' l p).4, AV.int IntKind.i64 (at' l p).5, AV.int IntKind.i64 (at' l p).6]]) ∧ [AV.agg [AV.w64 (at' l p).1, AV.w64 (at' l p).2, AV.w64 (at' l p).3, AV.w64 (at' l p).4, AV.int IntKind.i64 (at' l p).5, AV.int IntKind.i64 (at' l p).6]] ++ List.take (p - Int.toNat (↑p_1 : Int)) (List.drop ((0 : Nat) + Int.toNat (↑p_1 : Int)) (F (soL l p))) = F (at' l p :: List.drop p_1 (soL l p)) ∧ ((0 : Int) ≤ (↑p_1 : Int) ∧ (↑p_1 : Int) < (↑(p + (1 : Nat)) : Int)) ∧ (((0 : Nat) + (Int.toNat (↑p_1 : Int) - (0 : Nat))) * (48 : Nat) ≤ (140737488355328 : Nat) ∧ (0 : Nat) + (Int.toNat (↑p_1 : Int) - (0 : Nat)) ≤ (9223372036854775807 : Nat) ∧ (0 : Nat) + (0 : Nat) + (Int.toNat (↑p_1 : Int) - (0 : Nat)) ≤ List.length (F (soL l p)) ∧ (0 : Nat) ≤ List.length ([] : List AV)) ∧ [] ++ List.take (Int.toNat (↑p_1 : Int) - (0 : Nat)) (List.drop ((0 : Nat) + (0 : Nat)) (F (soL l p))) = F (List.take p_1 (soL l p)) ∧ (((0 : Nat) + (Int.toNat (↑p_1 : Int) - (0 : Nat)) + ((1 : Nat) + (p - Int.toNat (↑p_1 : Int)))) * (48 : Nat) ≤ (140737488355328 : Nat) ∧ (0 : Nat) + (Int.toNat (↑p_1 : Int) - (0 : Nat)) + ((1 : Nat) + (p - Int.toNat (↑p_1 : Int))) ≤ (9223372036854775807 : Nat) ∧ (0 : Nat) + ((1 : Nat) + (p - Int.toNat (↑p_1 : Int))) ≤ List.length (F (at' l p :: List.drop p_1 (soL l p))) ∧ (0 : Nat) + (Int.toNat (↑p_1 : Int) - (0 : Nat)) ≤ List.length (F (List.take p_1 (soL l p)))) ∧ List.take ((0 : Nat) + (Int.toNat (↑p_1 : Int) - (0 : Nat))) (F (List.take p_1 (soL l p))) ++ List.take ((1 : Nat) + (p - Int.toNat (↑p_1 : Int))) (List.drop 0 (F (at' l p :: List.drop p_1 (soL l p)))) = F (List.take p_1 (soL l p) ++ at' l p :: List.drop p_1 (soL l p)) ∧ inRange IntKind.i64 ((↑p : Int) + (1 : Int)) ∧ ∃ (p' : Nat), St.mk [AV.vsl 0 0 (List.length (List.map enE l)), .any, .any, AV.vsl ((0 : Nat) + (1 : Nat)) 0 ((0 : Nat) + (Int.toNat (↑p_1 : Int) - (0 : Nat)) + ((1 : Nat) + (p - Int.toNat (↑p_1 : Int)))), AV.int IntKind.i64 ((↑p : Int) + (1 : Int)), .any, .any, .any, .any, .any, .any, .any, .any, .any, .any, .any, .any, .any, .any, .any, .any, .any, .any, .any, .any, .any, .any, .any, .any, .any, .any, .any, .any, .any, .any, .any, .any, .any, .any, .any, .any, .any, .any, .any, .any, .any, .any, .any] [some (Blk.mk false (53 : TypeId) 6 true (List.map enE l)), some (Blk.mk true 53 6 true (F (List.take p_1 (soL l p) ++ at' l p :: List.drop p_1 (soL l p))))] = soSt F l p' ∧ Nat.le p' (List.length l) ∧ List.length l + (1 : Nat) - p' < List.length l + (1 : Nat) - p)) ∧ (Decidable.decide ((↑p : Int) < (↑(List.length (List.map enE l)) : Int)) = false → p = List.length es ∧ some (Blk.mk true (53 : TypeId) 6 true (F (soL l p))) = some (Blk.mk true (53 : TypeId) 6 true es))) := by kernel_rfl

theorem rsortCs_ok : ∀ e ∈ rsortCs, SpecOK Tryz.prog e.1 e.2 := by
  intro e he
  simp only [rsortCs, List.mem_cons, List.not_mem_nil, or_false] at he
  rcases he with rfl
  · exact rcompare_ok

theorem rsort_ok : SpecOK Tryz.prog 22 (genSpec [pRefE] rsortF) := by
  refine genSpec_ok (run_ok (l := rsortCs) rsortCs_ok mixed noNG) fun l R hF => ?_
  unfold rsortF at hF
  split at hF
  · rename_i r_l
    obtain ⟨hr_l, hl, hF⟩ := hF
    generalize deE r_l = l at hr_l hl hF
    subst hr_l
    refine ⟨_, hF, trivial, (soH (List.map enE) l), ?_⟩
    show run rsortCs Tryz.prog _ [.vsl 0 0 (l.map enE).length] [some ⟨false, (pRefE.getD (0, 0)).1, (pRefE.getD (0, 0)).2, true, (l.map enE)⟩] _ _
    rw [rsort_run]
    have ol : ∀ p, p ≤ l.length → (soL l p).length = p := fun p hp => by unfold soL; rw [srE_length, List.length_take]; omega
    refine ⟨⟨rfl, Nat.zero_le _⟩, ?_⟩
    intro p hp
    have hp : p ≤ l.length := hp
    refine ⟨fun hlt => ⟨⟨rfl, Nat.zero_le _, fun j hj => by omega⟩, ?_⟩, fun hge => ?_⟩
    · have hlt : p < l.length := by simp only [decide_eq_true_eq, List.length_map] at hlt; omega
      have B : 0 ≤ (p : Int) ∧ (p : Int) < ((l.map enE).length : Int) := by rw [List.length_map]; omega
      have hol := ol p hp
      rintro k ⟨h1, h2⟩
      refine ⟨fun hk => ?_, fun hk => ?_⟩
      · have hk : k < p := by simpa using hk
        have Bk : 0 ≤ (k : Int) ∧ (k : Int) < (((soL l p).map enE).length : Int) := by rw [List.length_map]; omega
        refine ⟨by omega, read_rows Bk.1 Bk.2 (ref_whole _), B, read_rows B.1 B.2 (ref_whole _), fun hc => ⟨inR (by omega) (by omega), k + 1, rfl, ⟨by omega, fun j hj => ?_⟩, by omega⟩, fun hc => ?_⟩
        · rcases Nat.lt_or_eq_of_le (Nat.le_of_lt_succ hj) with h | rfl
          · exact h2 j h
          · exact of_decide_eq_true hc
        have hz : k < (soL l p).length → ¬ cpE (at' (soL l p) k) (at' l p) ≤ 0 := fun _ => of_decide_eq_false hc
        have hi := insE_at (by omega) h2 hz
        have hn : soL l (p + 1) = (soL l p).take k ++ at' l p :: (soL l p).drop k := by
          rw [← hi]
          unfold soL
          rw [List.take_add_one, at_get hlt]
          exact srE_snoc _ _
        have e1 : ((soL l p).drop k).length = p - k := by rw [List.length_drop]; omega
        have e2 : ((soL l p).take k).length = k := by rw [List.length_take]; omega
        rw [show ((k : Int)).toNat = k from rfl, Nat.zero_add, Nat.zero_add, Nat.zero_add, Nat.sub_zero, ← hn]
        refine ⟨B, by rw [← Nat.zero_add ((p : Int)).toNat]; exact read_rows B.1 B.2 (ref_whole _), by omega, ⟨by omega, by omega, by rw [List.length_map]; omega, by simp⟩, ?_, by omega, ⟨by omega, by omega, by rw [List.length_map]; omega, by simp⟩, ?_, ⟨by omega, by omega, by rw [List.length_map, List.length_cons]; omega, by rw [List.length_map]; omega⟩, ?_, inR (by omega) (by omega), p + 1, ?_, (by omega : p + 1 ≤ l.length), by omega⟩
        · rw [List.take_of_length_le (by rw [List.length_drop, List.length_map]; omega), ← List.map_drop]; rfl
        · rw [List.nil_append, List.drop_zero, List.map_take]
        · have a1 : List.take k (((soL l p).take k).map enE) = ((soL l p).take k).map enE := List.take_of_length_le (by rw [List.length_map]; omega)
          have a2 : List.take (1 + (p - k)) ((at' l p :: (soL l p).drop k).map enE) = (at' l p :: (soL l p).drop k).map enE := List.take_of_length_le (by rw [List.length_map, List.length_cons]; omega)
          rw [a1, List.drop_zero, a2, ← List.map_append, hn]
        · unfold soSt
          rw [show k + (1 + (p - k)) = p + 1 from by omega]
          rfl
      · have hz : k < (soL l p).length → ¬ cpE (at' (soL l p) k) (at' l p) ≤ 0 := fun h => by simp only [decide_eq_false_iff_not] at hk; omega
        have hi := insE_at (by omega) h2 hz
        have hn : soL l (p + 1) = (soL l p).take k ++ at' l p :: (soL l p).drop k := by
          rw [← hi]
          unfold soL
          rw [List.take_add_one, at_get hlt]
          exact srE_snoc _ _
        have e1 : ((soL l p).drop k).length = p - k := by rw [List.length_drop]; omega
        have e2 : ((soL l p).take k).length = k := by rw [List.length_take]; omega
        rw [show ((k : Int)).toNat = k from rfl, Nat.zero_add, Nat.zero_add, Nat.zero_add, Nat.sub_zero, ← hn]
        refine ⟨B, by rw [← Nat.zero_add ((p : Int)).toNat]; exact read_rows B.1 B.2 (ref_whole _), by omega, ⟨by omega, by omega, by rw [List.length_map]; omega, by simp⟩, ?_, by omega, ⟨by omega, by omega, by rw [List.length_map]; omega, by simp⟩, ?_, ⟨by omega, by omega, by rw [List.length_map, List.length_cons]; omega, by rw [List.length_map]; omega⟩, ?_, inR (by omega) (by omega), p + 1, ?_, (by omega : p + 1 ≤ l.length), by omega⟩
        · rw [List.take_of_length_le (by rw [List.length_drop, List.length_map]; omega), ← List.map_drop]; rfl
        · rw [List.nil_append, List.drop_zero, List.map_take]
        · have a1 : List.take k (((soL l p).take k).map enE) = ((soL l p).take k).map enE := List.take_of_length_le (by rw [List.length_map]; omega)
          have a2 : List.take (1 + (p - k)) ((at' l p :: (soL l p).drop k).map enE) = (at' l p :: (soL l p).drop k).map enE := List.take_of_length_le (by rw [List.length_map, List.length_cons]; omega)
          rw [a1, List.drop_zero, a2, ← List.map_append, hn]
        · unfold soSt
          rw [show k + (1 + (p - k)) = p + 1 from by omega]
          rfl
    · have hp : p = l.length := by simp only [decide_eq_false_iff_not, List.length_map] at hge; omega
      subst hp
      unfold soL
      rw [List.take_length, List.length_map, srE_length]
      exact ⟨rfl, rfl⟩
  · exact hF.elim


end Go.Proofs.YtnjbgbdcbejciaaGreat.L1
end

section
/-
  Layer 5: what the contracts of the program's calls on entries say.
-/
namespace Go.Proofs.YtnjbgbdcbejciaaGreat.L1
open Go.Sx Go.Sx.M

def erightF : List Arg → (Res → Prop) → Prop
  | [.v (.agg [.w64 v, .w64 w, .w64 m, .w64 n, .int .i64 k, .int .i64 j])], R => R (.v (.bool (rtE ⟨v, w, m, n, k, j⟩)))
  | _, _ => False

def eofF : List Arg → (Res → Prop) → Prop
  | [.v (.agg [.w64 a, .w64 b, .int .i64 k]), .v (.int .i64 j)], R => R (.v (.agg [.w64 (a &&& mkW k), .w64 (b &&& mkW (k - 64)), .w64 (mkW k), .w64 (mkW (k - 64)), .int .i64 (clamp k), .int .i64 j]))
  | _, _ => False

def efirstF : List Arg → (Res → Prop) → Prop
  | [.row r_l, .v (.agg [.w64 a, .w64 b])], R => r_l = (deE r_l).map enE ∧ (deE r_l).length ≤ 9223372036854775807 ∧ R (.v (.tuple [.int .i64 (mx0 (fsI (deE r_l) a b)), .bool (decide (fsI (deE r_l) a b ≥ 0))]))
  | _, _ => False

def esortF : List Arg → (Res → Prop) → Prop
  | [.row r_l], R => r_l = (deE r_l).map enE ∧ (deE r_l).length ≤ 1000000 ∧ R (.vrow 46 6 ((srE (deE r_l)).map enE))
  | _, _ => False

end Go.Proofs.YtnjbgbdcbejciaaGreat.L1
end

section
/-
  Layer 5: contracts of the program's calls on entries: Right, Of, Above, Ordered, First, Best, Tell, Compare, Alike.
-/
namespace Go.Proofs.YtnjbgbdcbejciaaGreat.L1
open Go.Sx Go.Sx.M

def pInt5 : Par := some (3, 1)

def cmpzF : List Arg → (Res → Prop) → Prop
  | [.v (.int .i64 m), .v (.int .i64 n)], R => R (.v (.int .i64 (cmpZ m n)))
  | _, _ => False

def or4F : List Arg → (Res → Prop) → Prop
  | [.row [.int .i64 a, .int .i64 b, .int .i64 c, .int .i64 d]], R => R (.v (.int .i64 (orZ a (orZ b (orZ c d)))))
  | _, _ => False

theorem cmpz_run (m n : Int) (r : AV) : run [] Tryz.prog 83 [.int .i64 m, .int .i64 n] [] [.br false, .br false, .fork [] [.fork [] []]] (yields (.v r)) =
    ((m != m) = false ∧ (n != n) = false ∧ (Decidable.decide (m < n) = true → AV.int IntKind.i64 (-1 : Int) = r) ∧ (Decidable.decide (m < n) = false → (Decidable.decide (m > n) = true → AV.int IntKind.i64 (1 : Int) = r) ∧ (Decidable.decide (m > n) = false → AV.int IntKind.i64 (0 : Int) = r))) := by kernel_rfl

theorem cmpz_ok : SpecOK Tryz.prog 83 (genSpec [none, none] cmpzF) := by
  refine genSpec_ok none_ok fun l R hF => ?_
  unfold cmpzF at hF
  split at hF
  · rename_i m n
    refine ⟨_, hF, rfl, [.br false, .br false, .fork [] [.fork [] []]], ?_⟩
    show run [] Tryz.prog _ [.int .i64 m, .int .i64 n] [] _ _
    rw [cmpz_run]
    simp only [decide_eq_true_eq, decide_eq_false_iff_not]
    refine ⟨by simp, by simp, fun h => ?_, fun h => ⟨fun h2 => ?_, fun h2 => ?_⟩⟩
    all_goals
      congr 1
      unfold cmpZ
    · rw [if_pos h]
    · rw [if_neg h, if_pos (by omega)]
    · rw [if_neg h, if_neg (by omega)]
  · exact hF.elim


theorem or4_run (a b c d : Int) (r : AV) : run [] Tryz.prog 82 [.vsl 0 0 4] [some ⟨false, 3, 1, true, [.int .i64 a, .int .i64 b, .int .i64 c, .int .i64 d]⟩] [.loop 5, .br true, .cell (.int .i64 a), .fork [] [.br true, .cell (.int .i64 b), .fork [] [.br true, .cell (.int .i64 c), .fork [] [.br true, .cell (.int .i64 d), .fork [] [.br false]]]]] (yields (.v r)) =
    (Decidable.decide ((0 : Int) < (↑(4 : Nat) : Int)) = true ∧ ((0 : Int) ≤ (0 : Int) ∧ (0 : Int) < (↑(4 : Nat) : Int)) ∧ Blk.read Proofs.Tryz.prog (Blk.mk false (3 : TypeId) 1 true [AV.int IntKind.i64 a, AV.int IntKind.i64 b, AV.int IntKind.i64 c, AV.int IntKind.i64 d]) 3 ((0 : Nat) + Int.toNat 0) 0 = some (AV.int IntKind.i64 a) ∧ ((a != (0 : Int)) = true → AV.int IntKind.i64 a = r) ∧ ((a != (0 : Int)) = false → Decidable.decide ((1 : Int) < (↑(4 : Nat) : Int)) = true ∧ ((0 : Int) ≤ (1 : Int) ∧ (1 : Int) < (↑(4 : Nat) : Int)) ∧ Blk.read Proofs.Tryz.prog (Blk.mk false (3 : TypeId) 1 true [AV.int IntKind.i64 a, AV.int IntKind.i64 b, AV.int IntKind.i64 c, AV.int IntKind.i64 d]) 3 ((0 : Nat) + Int.toNat 1) 0 = some (AV.int IntKind.i64 b) ∧ ((b != (0 : Int)) = true → AV.int IntKind.i64 b = r) ∧ ((b != (0 : Int)) = false → Decidable.decide ((2 : Int) < (↑(4 : Nat) : Int)) = true ∧ ((0 : Int) ≤ (2 : Int) ∧ (2 : Int) < (↑(4 : Nat) : Int)) ∧ Blk.read Proofs.Tryz.prog (Blk.mk false (3 : TypeId) 1 true [AV.int IntKind.i64 a, AV.int IntKind.i64 b, AV.int IntKind.i64 c, AV.int IntKind.i64 d]) 3 ((0 : Nat) + Int.toNat 2) 0 = some (AV.int IntKind.i64 c) ∧ ((c != (0 : Int)) = true → AV.int IntKind.i64 c = r) ∧ ((c != (0 : Int)) = false → Decidable.decide ((3 : Int) < (↑(4 : Nat) : Int)) = true ∧ ((0 : Int) ≤ (3 : Int) ∧ (3 : Int) < (↑(4 : Nat) : Int)) ∧ Blk.read Proofs.Tryz.prog (Blk.mk false (3 : TypeId) 1 true [AV.int IntKind.i64 a, AV.int IntKind.i64 b, AV.int IntKind.i64 c, AV.int IntKind.i64 d]) 3 ((0 : Nat) + Int.toNat 3) 0 = some (AV.int IntKind.i64 d) ∧ ((d != (0 : Int)) = true → AV.int IntKind.i64 d = r) ∧ ((d != (0 : Int)) = false → Decidable.decide ((4 : Int) < (↑(4 : Nat) : Int)) = false ∧ AV.int IntKind.i64 0 = r))))) := by kernel_rfl

theorem or4_ok : SpecOK Tryz.prog 82 (genSpec [pInt5] or4F) := by
  refine genSpec_ok none_ok fun l R hF => ?_
  unfold or4F at hF
  split at hF
  · rename_i a b c d
    refine ⟨_, hF, rfl, [.loop 5, .br true, .cell (.int .i64 a), .fork [] [.br true, .cell (.int .i64 b), .fork [] [.br true, .cell (.int .i64 c), .fork [] [.br true, .cell (.int .i64 d), .fork [] [.br false]]]]], ?_⟩
    show run [] Tryz.prog _ [.vsl 0 0 4] [some ⟨false, 3, 1, true, [.int .i64 a, .int .i64 b, .int .i64 c, .int .i64 d]⟩] _ _
    rw [or4_run]
    refine ⟨by decide, by decide, by kernel_rfl, fun h => ?_, fun h => ⟨by decide, by decide, by kernel_rfl, fun h2 => ?_, fun h2 => ⟨by decide, by decide, by kernel_rfl, fun h3 => ?_, fun h3 => ⟨by decide, by decide, by kernel_rfl, fun h4 => ?_, fun h4 => ⟨by decide, ?_⟩⟩⟩⟩⟩
    all_goals
      congr 1
      unfold orZ
      simp only [bne_iff_ne, ne_eq, bne_eq_false_iff_eq] at *
    · rw [if_neg h]
    · rw [if_pos h, if_neg h2]
    · rw [if_pos h, if_pos h2, if_neg h3]
    · rw [if_pos h, if_pos h2, if_pos h3]
    · rw [if_pos h, if_pos h2, if_pos h3, h4]
  · exact hF.elim


noncomputable def eofCs : List (FuncId × Sx.Spec) := [(12, genSpec [none, none] makeF),
  (63, genSpec [none] wofF)]

theorem eof_run (a b : BitVec 64) (k j : Int) (r : AV) : run eofCs Tryz.prog 34 [.agg [.w64 a, .w64 b, .int .i64 k], .int .i64 j] [] [] (yields (.v r)) =
    (AV.agg [AV.w64 (a &&& mkW k &&& mkW (clamp k)), AV.w64 (b &&& mkW (k - (64 : Int)) &&& mkW (clamp k - (64 : Int))), AV.w64 (mkW (clamp k)), AV.w64 (mkW (clamp k - (64 : Int))), AV.int IntKind.i64 (clamp k), AV.int IntKind.i64 j] = r) := by kernel_rfl

theorem eofCs_ok : ∀ e ∈ eofCs, SpecOK Tryz.prog e.1 e.2 := by
  intro e he
  simp only [eofCs, List.mem_cons, List.not_mem_nil, or_false] at he
  rcases he with rfl | rfl
  · exact pmake_ok
  · exact wof_ok

theorem eof_ok : SpecOK Tryz.prog 34 (genSpec [none, none] eofF) := by
  refine genSpec_ok (run_ok (l := eofCs) eofCs_ok mixed noNG) fun l R hF => ?_
  unfold eofF at hF
  split at hF
  · rename_i a b k j
    refine ⟨_, hF, rfl, [], ?_⟩
    show run eofCs Tryz.prog _ [.agg [.w64 a, .w64 b, .int .i64 k], .int .i64 j] [] _ _
    rw [eof_run]
    rw [(mkW_clamp k).1, (mkW_clamp k).2, BitVec.and_assoc, BitVec.and_self, BitVec.and_assoc, BitVec.and_self]
  · exact hF.elim


noncomputable def ecompareCs : List (FuncId × Sx.Spec) := [(84, genSpec [none, none] cmpF),
  (83, genSpec [none, none] cmpzF),
  (82, genSpec [pInt5] or4F)]

noncomputable def ecompare_run_cut0 (v w m n : BitVec 64) (k j : Int) (c d p q : BitVec 64) (s t : Int) : St := St.mk [AV.any, AV.any, AV.any, AV.any, AV.int IntKind.i64 (orZ (cmpZ s k) (orZ (cmpV (V v w) (V c d)) (orZ (cmpV (V m n) (V p q)) (cmpZ j t)))), AV.any, AV.any, AV.any, AV.any, AV.any, AV.any, AV.any, AV.any, AV.any, AV.any, AV.any, AV.any, AV.any, AV.any, AV.any, AV.any, AV.any, AV.any, AV.any, AV.any, AV.any, AV.any, AV.any, AV.any, AV.any, AV.any] []

theorem ecompare_run (v w m n : BitVec 64) (k j : Int) (c d p q : BitVec 64) (s t : Int) (r : AV) : run ecompareCs Tryz.prog 59 [.agg [.w64 v, .w64 w, .w64 m, .w64 n, .int .i64 k, .int .i64 j], .agg [.w64 c, .w64 d, .w64 p, .w64 q, .int .i64 s, .int .i64 t]] [] [.cut 31 [4] (ecompare_run_cut0 v w m n k j c d p q s t) []] (yields (.v r)) =
    ((∃ (_ : Unit), (ecompare_run_cut0 v w m n k j c d p q s t) = (ecompare_run_cut0 v w m n k j c d p q s t) ∧ True) ∧ ∀ (_ : Unit), True → AV.int IntKind.i64 (orZ (cmpZ s k) (orZ (cmpV (V v w) (V c d)) (orZ (cmpV (V m n) (V p q)) (cmpZ j t)))) = r) := by kernel_rfl

theorem ecompareCs_ok : ∀ e ∈ ecompareCs, SpecOK Tryz.prog e.1 e.2 := by
  intro e he
  simp only [ecompareCs, List.mem_cons, List.not_mem_nil, or_false] at he
  rcases he with rfl | rfl | rfl
  · exact acmp_ok
  · exact cmpz_ok
  · exact or4_ok

theorem ecompare_ok : SpecOK Tryz.prog 59 (genSpec [none, none] rcompareF) := by
  refine genSpec_ok (run_ok (l := ecompareCs) ecompareCs_ok mixed noNG) fun l R hF => ?_
  unfold rcompareF at hF
  split at hF
  · rename_i v w m n k j c d p q s t
    refine ⟨_, hF, rfl, [.cut 31 [4] (ecompare_run_cut0 v w m n k j c d p q s t) []], ?_⟩
    show run ecompareCs Tryz.prog _ [.agg [.w64 v, .w64 w, .w64 m, .w64 n, .int .i64 k, .int .i64 j], .agg [.w64 c, .w64 d, .w64 p, .w64 q, .int .i64 s, .int .i64 t]] [] _ _
    rw [ecompare_run]
    exact ⟨⟨(), rfl, trivial⟩, fun _ _ => rfl⟩
  · exact hF.elim


end Go.Proofs.YtnjbgbdcbejciaaGreat.L1
end

