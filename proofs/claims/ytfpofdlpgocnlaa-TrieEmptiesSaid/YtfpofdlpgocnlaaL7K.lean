/-
  Layer 7: the law TrieEmpties: its condition, its proof.
-/
import Derived.Test.YtfpofdlpgocnlaaL7a
namespace Go.Sx.M
open Go.Proofs.Ytfpofdlpgocnlaa.L1

/-- What is left of a table when k routes are dropped, from its front or from its end. -/
def emT (t : Bool) (T : List Ro) (k : Nat) : List Ro := if t then T.take (T.length - k) else T.drop k

theorem dT_of {w : Int} {l : List Ro} (T : TB w l) {x : Ro} (hx : x ∈ l) : dT w l false x = drR l x.p ∧ dE w l false x = 0 := by
  have h1 := T.rip hx
  have h2 := fdR_tb T hx
  unfold dT dE
  rw [h1, h2]
  exact ⟨rfl, rfl⟩

theorem drop_one {l : List Ro} {i : Nat} (hi : i < l.length) : l.drop i = at' l i :: l.drop (i + 1) := by
  have e : l[i] = at' l i := by
    have := at_get hi
    rw [List.getElem?_eq_getElem hi] at this
    exact Option.some_inj.1 this
  rw [List.drop_eq_getElem_cons hi, e]

theorem emT_next {w : Int} {T : List Ro} (h : TB w T) (t : Bool) {k : Nat} (hk : k < T.length) : TB w (emT t T k) ∧
    (t = true → dT w (emT t T k) false (at' T (T.length - 1 - k)) = emT t T (k + 1) ∧ dE w (emT t T k) false (at' T (T.length - 1 - k)) = 0) ∧
    (t = false → dT w (emT t T k) false (at' T k) = emT t T (k + 1) ∧ dE w (emT t T k) false (at' T k) = 0) := by
  cases t
  · have Td : TB w (T.drop k) := h.sub (List.drop_sublist _ _)
    refine ⟨Td, fun e => (by cases e), fun _ => ?_⟩
    have hm : at' T k ∈ T.drop k := by rw [drop_one hk]; exact List.mem_cons_self
    obtain ⟨e1, e2⟩ := dT_of Td hm
    refine ⟨e1.trans ?_, e2⟩
    show drR (T.drop k) (at' T k).p = T.drop (k + 1)
    have hs := Td.sorted
    rw [drop_one hk] at hs ⊢
    have hs := (List.pairwise_cons.1 hs).1
    unfold drR
    rw [List.filter_cons_of_neg (by simp)]
    exact drR_none fun x hx e => by
      have := hs x hx
      rw [e, cpP_self] at this
      omega
  · have Td : TB w (T.take (T.length - k)) := h.sub (List.take_sublist _ _)
    refine ⟨Td, fun _ => ?_, fun e => (by cases e)⟩
    have hi : T.length - 1 - k < T.length := by omega
    have et : T.take (T.length - k) = T.take (T.length - 1 - k) ++ [at' T (T.length - 1 - k)] := by
      rw [← take_one hi, show T.length - 1 - k + 1 = T.length - k by omega]
    have hm : at' T (T.length - 1 - k) ∈ T.take (T.length - k) := by rw [et]; simp
    obtain ⟨e1, e2⟩ := dT_of Td hm
    refine ⟨e1.trans ?_, e2⟩
    show drR (T.take (T.length - k)) (at' T (T.length - 1 - k)).p = T.take (T.length - (k + 1))
    have hs := Td.sorted
    rw [et] at hs ⊢
    have hs := (List.pairwise_append.1 hs).2.2
    rw [show T.length - (k + 1) = T.length - 1 - k by omega]
    unfold drR
    rw [List.filter_append, List.filter_cons_of_neg (by simp), List.filter_nil, List.append_nil]
    exact drR_none fun x hx e => by
      have := hs x hx _ (List.mem_singleton.2 rfl)
      rw [e, cpP_self] at this
      omega

theorem emT_all (t : Bool) (T : List Ro) : emT t T T.length = [] := by
  unfold emT
  split
  · rw [Nat.sub_self, List.take_zero]
  · exact List.drop_length

theorem emT_none (t : Bool) (T : List Ro) : emT t T 0 = T := by
  unfold emT
  split
  · rw [Nat.sub_zero, List.take_length]
  · rfl

theorem bsR_empty (c d : BitVec 64) : bsR [] c d = none := bsR_none fun _ hj => absurd hj (Nat.not_lt_zero _)

end Go.Sx.M
namespace Go.Proofs.Ytfpofdlpgocnlaa.L1
open Go.Sx Go.Sx.M

def emSt (w : Int) (l : List OpR) (t : Bool) (i : Nat) : St :=
  ⟨[.int .i64 w, .any, .bool t, .any, .any, .any, .any, .ptr 1 0 0 true, .vsl 2 0 ((tblT w l).map roE).length, .any, .any, .any, .any, .any, .any, .any, .any, .any, .any, .any, .any, .any, .any, .any, .any, .any, .any, .any, .any, .any, .any, .any, .any, .int .i64 ((tblT w l).map roE).length, .int .i64 i, .any, .any, .any, .any, .any, .any, .any, .any, .any, .any, .any, .any, .any, .any, .any, .any, .any, .any, .any, .any, .any, .any, .any, .any, .any, .any, .any, .any, .any, .any, .any, .any, .any, .any, .any, .any, .any, .any, .any, .any, .any, .any, .any, .any, .any, .any, .any, .any, .any, .any, .any, .any, .any], [some ⟨false, 74, 5, true, l.map opE⟩, some ⟨true, trT, 0, true, .int .i64 w :: (emT t (tblT w l) i).map roE⟩, some ⟨true, 48, 4, true, (tblT w l).map roE⟩]⟩
def emM0 : Modes := ⟨[1, 0, 1, 0, 0, 0, 0, 1, 1, 0, 0, 0, 0, 0, 0, 0, 0, 0, 0, 0, 0, 0, 0, 0, 0, 0, 0, 0, 0, 0, 0, 0, 0, 1, 2, 0, 0, 0, 0, 0, 0, 0, 0, 0, 0, 0, 0, 0, 0, 0, 0, 0, 0, 0, 0, 0, 0, 0, 0, 0, 0, 0, 0, 0, 0, 0, 0, 0, 0, 0, 0, 0, 0, 0, 0, 0, 0, 0, 0, 0, 0, 0, 0, 0, 0, 0, 0, 0], [], [], [], []⟩
def emM : Modes := ⟨[1, 0, 1, 0, 0, 0, 0, 1, 1, 0, 0, 0, 0, 0, 0, 0, 0, 0, 0, 0, 0, 0, 0, 0, 0, 0, 0, 0, 0, 0, 0, 0, 0, 1, 1, 0, 0, 0, 0, 0, 0, 0, 0, 0, 0, 0, 0, 0, 0, 0, 0, 0, 0, 0, 0, 0, 0, 0, 0, 0, 0, 0, 0, 0, 0, 0, 0, 0, 0, 0, 0, 0, 0, 0, 0, 0, 0, 0, 0, 0, 0, 0, 0, 0, 0, 0, 0, 0], [], [], [], []⟩
def emM' : Modes := ⟨[0, 0, 0, 0, 0, 0, 0, 1, 0, 0, 0, 0, 0, 0, 0, 0, 0, 0, 0, 0, 0, 0, 0, 0, 0, 0, 0, 0, 0, 0, 0, 0, 0, 0, 0, 0, 0, 0, 0, 0, 0, 0, 0, 0, 0, 0, 0, 0, 0, 0, 0, 0, 0, 0, 0, 0, 0, 0, 0, 0, 0, 0, 0, 0, 0, 0, 0, 0, 0, 0, 0, 0, 0, 0, 0, 0, 0, 0, 0, 0, 0, 0, 0, 0, 0, 0, 0, 0], [], [], [], []⟩
def emC (w : Int) (l : List OpR) (j : Nat) : List Hint := [.wrc [31], .dy, .cell (.agg [.w64 (at' (tblT w l) j).p.a, .w64 (at' (tblT w l) j).p.b]), .dy, .cell (.int .i64 (at' (tblT w l) j).p.len), .br false, .nw]
def emH (w : Int) (l : List OpR) (t : Bool) : List Hint := [.fork [] [.fork [] [.br false, .linv _ 0 (emSt w l t) (fun i => i ≤ (tblT w l).length) (fun i => (tblT w l).length + 1 - i) emM0 emM emM' (fun _ => [.br true, .br true, .br true, .br true]) fun p =>
  [.fork [.fork ([.nw, .nw] ++ emC w l ((tblT w l).length - 1 - p)) (emC w l p)] []]]]]

theorem empties7_run (w : Int) (l : List OpR) (t : Bool) : run l7Cs Try.prog 6 [.int .i64 w, .vsl 0 0 (l.map opE).length, .bool t] [some ⟨false, 74, 5, true, l.map opE⟩] (emH w l t) isTrue =
    ((Decidable.decide ((↑(List.length (List.map opE l)) : Int) > (14 : Int)) = true → True ∧ true = true) ∧ (Decidable.decide ((↑(List.length (List.map opE l)) : Int) > (14 : Int)) = false → ((!Decidable.decide (w = (32 : Int) ∨ w = (128 : Int))) = true → True ∧ true = true) ∧ ((!Decidable.decide (w = (32 : Int) ∨ w = (128 : Int))) = false → (0 : Nat) + List.length (List.map opE l) ≤ List.length (List.map opE l) ∧ List.take (List.length (List.map opE l)) (List.drop (0 : Nat) (List.map opE l)) = List.map opE (deO (List.take (List.length (List.map opE l)) (List.drop (0 : Nat) (List.map opE l)))) ∧ List.length (deO (List.take (List.length (List.map opE l)) (List.drop (0 : Nat) (List.map opE l)))) ≤ (14 : Nat) ∧ (w = (32 : Int) ∨ w = (128 : Int)) ∧ (!true) = false ∧ (St.mk [AV.int IntKind.i64 w, AV.any, AV.bool t, AV.any, AV.any, AV.any, AV.any, AV.ptr ((0 : Nat) + (1 : Nat)) (0 : Nat) (0 : Nat) true, AV.vsl ((0 : Nat) + (1 : Nat) + (1 : Nat)) (0 : Nat) (List.length (List.map roE (tblT w (deO (List.take (List.length (List.map opE l)) (List.drop (0 : Nat) (List.map opE l))))))), AV.any, AV.any, AV.any, AV.any, AV.any, AV.any, AV.any, AV.any, AV.any, AV.any, AV.any, AV.any, AV.any, AV.any, AV.any, AV.any, AV.any, AV.any, AV.any, AV.any, AV.any, AV.any, AV.any, AV.any, AV.int IntKind.i64 (↑(List.length (List.map roE (tblT w (deO (List.take (List.length (List.map opE l)) (List.drop (0 : Nat) (List.map opE l))))))) : Int), AV.int IntKind.i64 (0 : Int), AV.any, AV.any, AV.any, AV.any, AV.any, AV.any, AV.any, AV.any, AV.any, AV.any, AV.any, AV.any, AV.any, AV.any, AV.any, AV.any, AV.any, AV.any, AV.any, AV.any, AV.any, AV.any, AV.any, AV.any, AV.any, AV.any, AV.any, AV.any, AV.any, AV.any, AV.any, AV.any, AV.any, AV.any, AV.any, AV.any, AV.any, AV.any, AV.any, AV.any, AV.any, AV.any, AV.any, AV.any, AV.any, AV.any, AV.any, AV.any, AV.any, AV.any, AV.any, AV.any, AV.any] [some (Blk.mk false (74 : TypeId) (5 : Nat) true (List.map opE l)), some (Blk.mk true (nat_lit 84) (0 : Nat) true (AV.int IntKind.i64 w :: List.map roE (tblT w (deO (List.take (List.length (List.map opE l)) (List.drop (0 : Nat) (List.map opE l))))))), some (Blk.mk true (48 : TypeId) (4 : Nat) true (List.map roE (tblT w (deO (List.take (List.length (List.map opE l)) (List.drop (0 : Nat) (List.map opE l)))))))] = emSt w l t (0 : Nat) ∧ Nat.le (0 : Nat) (List.length (tblT w l))) ∧ ∀ (p : Nat), Nat.le p (List.length (tblT w l)) → (Decidable.decide ((↑p : Int) < (↑(List.length (List.map roE (tblT w l))) : Int)) = true → (t = true → inRange IntKind.i64 ((↑(List.length (List.map roE (tblT w l))) : Int) - (1 : Int)) ∧ inRange IntKind.i64 ((↑(List.length (List.map roE (tblT w l))) : Int) - (1 : Int) - (↑p : Int)) ∧ ((0 : Int) ≤ (↑(List.length (List.map roE (tblT w l))) : Int) - (1 : Int) - (↑p : Int) ∧ (↑(List.length (List.map roE (tblT w l))) : Int) - (1 : Int) - (↑p : Int) < (↑(List.length (List.map roE (tblT w l))) : Int)) ∧ Blk.read Proofs.Try.prog (Blk.mk true (48 : TypeId) (4 : Nat) true (List.map roE (tblT w l))) (36 : Nat) ((0 : Nat) + Int.toNat ((↑(List.length (List.map roE (tblT w l))) : Int) - (1 : Int) - (↑p : Int))) ((0 : Nat) + (0 : Nat) + (0 : Nat)) = some (AV.agg [AV.w64 (Ro.p (at' (tblT w l) (List.length (tblT w l) - (1 : Nat) - p))).1, AV.w64 (Ro.p (at' (tblT w l) (List.length (tblT w l) - (1 : Nat) - p))).2]) ∧ ((0 : Int) ≤ (↑(List.length (List.map roE (tblT w l))) : Int) - (1 : Int) - (↑p : Int) ∧ (↑(List.length (List.map roE (tblT w l))) : Int) - (1 : Int) - (↑p : Int) < (↑(List.length (List.map roE (tblT w l))) : Int)) ∧ Blk.read Proofs.Try.prog (Blk.mk true (48 : TypeId) (4 : Nat) true (List.map roE (tblT w l))) (3 : Nat) ((0 : Nat) + Int.toNat ((↑(List.length (List.map roE (tblT w l))) : Int) - (1 : Int) - (↑p : Int))) ((0 : Nat) + (0 : Nat) + (2 : Nat)) = some (AV.int IntKind.i64 (Ro.p (at' (tblT w l) (List.length (tblT w l) - (1 : Nat) - p))).3) ∧ List.map roE (emT t (tblT w l) p) = List.map roE (deR (List.map roE (emT t (tblT w l) p))) ∧ tbR w (deR (List.map roE (emT t (tblT w l) p))) = true ∧ (dE w (deR (List.map roE (emT t (tblT w l) p))) false (Ro.mk (Pf.mk (Ro.p (at' (tblT w l) (List.length (tblT w l) - (1 : Nat) - p))).1 (Ro.p (at' (tblT w l) (List.length (tblT w l) - (1 : Nat) - p))).2 (Ro.p (at' (tblT w l) (List.length (tblT w l) - (1 : Nat) - p))).3) (0 : Int)) != (0 : Int)) = false ∧ inRange IntKind.i64 ((↑p : Int) + (1 : Int)) ∧ ∃ (p' : Nat), St.mk [AV.int IntKind.i64 w, AV.any, AV.bool t, AV.any, AV.any, AV.any, AV.any, AV.ptr ((0 : Nat) + (1 : Nat)) (0 : Nat) (0 : Nat) true, AV.vsl ((0 : Nat) + (1 : Nat) + (1 : Nat)) (0 : Nat) (List.length (List.map roE (tblT w l))), AV.any, AV.any, AV.any, AV.any, AV.any, AV.any, AV.any, AV.any, AV.any, AV.any, AV.any, AV.any, AV.any, AV.any, AV.any, AV.any, AV.any, AV.any, AV.any, AV.any, AV.any, AV.any, AV.any, AV.any, AV.int IntKind.i64 (↑(List.length (List.map roE (tblT w l))) : Int), AV.int IntKind.i64 ((↑p : Int) + (1 : Int)), AV.any, AV.any, AV.any, AV.any, AV.any, AV.any, AV.any, AV.any, AV.any, AV.any, AV.any, AV.any, AV.any, AV.any, AV.any, AV.any, AV.any, AV.any, AV.any, AV.any, AV.any, AV.any, AV.any, AV.any, AV.any, AV.any, AV.any, AV.any, AV.any, AV.any, AV.any, AV.any, AV.any, AV.any, AV.any, AV.any, AV.any, AV.any, AV.any, AV.any, AV.any, AV.any, AV.any, AV.any, AV.any, AV.any, AV.any, AV.any, AV.any, AV.any, AV.any, AV.any, AV.any] [some (Blk.mk false (74 : TypeId) (5 : Nat) true (List.map opE l)), some (Blk.mk true (nat_lit 84) (0 : Nat) true (AV.int IntKind.i64 w :: List.map roE (dT w (deR (List.map roE (emT t (tblT w l) p))) false (Ro.mk (Pf.mk (Ro.p (at' (tblT w l) (List.length (tblT w l) - (1 : Nat) - p))).1 (Ro.p (at' (tblT w l) (List.length (tblT w l) - (1 : Nat) - p))).2 (Ro.p (at' (tblT w l) (List.length (tblT w l) - (1 : Nat) - p))).3) (0 : Int))))), some (Blk.mk true (48 : TypeId) (4 : Nat) true (List.map roE (tblT w l)))] = emSt w l t p' ∧ Nat.le p' (List.length (tblT w l)) ∧ List.length (tblT w l) + (1 : Nat) - p' < List.length (tblT w l) + (1 : Nat) - p) ∧ (t = false → ((0 : Int) ≤ (↑p : Int) ∧ (↑p : Int) < (↑(List.length (List.map roE (tblT w l))) : Int)) ∧ Blk.read Proofs.Try.prog (Blk.mk true (48 : TypeId) (4 : Nat) true (List.map roE (tblT w l))) (36 : Nat) ((0 : Nat) + Int.toNat (↑p : Int)) ((0 : Nat) + (0 : Nat) + (0 : Nat)) = some (AV.agg [AV.w64 (Ro.p (at' (tblT w l) p)).1, AV.w64 (Ro.p (at' (tblT w l) p)).2]) ∧ ((0 : Int) ≤ (↑p : Int) ∧ (↑p : Int) < (↑(List.length (List.map roE (tblT w l))) : Int)) ∧ Blk.read Proofs.Try.prog (Blk.mk true (48 : TypeId) (4 : Nat) true (List.map roE (tblT w l))) (3 : Nat) ((0 : Nat) + Int.toNat (↑p : Int)) ((0 : Nat) + (0 : Nat) + (2 : Nat)) = some (AV.int IntKind.i64 (Ro.p (at' (tblT w l) p)).3) ∧ List.map roE (emT t (tblT w l) p) = List.map roE (deR (List.map roE (emT t (tblT w l) p))) ∧ tbR w (deR (List.map roE (emT t (tblT w l) p))) = true ∧ (dE w (deR (List.map roE (emT t (tblT w l) p))) false (Ro.mk (Pf.mk (Ro.p (at' (tblT w l) p)).1 (Ro.p (at' (tblT w l) p)).2 (Ro.p (at' (tblT w l) p)).3) (0 : Int)) != (0 : Int)) = false ∧ inRange IntKind.i64 ((↑p : Int) + (1 : Int)) ∧ ∃ (p' : Nat), St.mk [AV.int IntKind.i64 w, AV.any, AV.bool t, AV.any, AV.any, AV.any, AV.any, AV.ptr ((0 : Nat) + (1 : Nat)) (0 : Nat) (0 : Nat) true, AV.vsl ((0 : Nat) + (1 : Nat) + (1 : Nat)) (0 : Nat) (List.length (List.map roE (tblT w l))), AV.any, AV.any, AV.any, AV.any, AV.any, AV.any, AV.any, AV.any, AV.any, AV.any, AV.any, AV.any, AV.any, AV.any, AV.any, AV.any, AV.any, AV.any, AV.any, AV.any, AV.any, AV.any, AV.any, AV.any, AV.int IntKind.i64 (↑(List.length (List.map roE (tblT w l))) : Int), AV.int IntKind.i64 ((↑p : Int) + (1 : Int)), AV.any, AV.any, AV.any, AV.any, AV.any, AV.any, AV.any, AV.any, AV.any, AV.any, AV.any, AV.any, AV.any, AV.any, AV.any, AV.any, AV.any, AV.any, AV.any, AV.any, AV.any, AV.any, AV.any, AV.any, AV.any, AV.any, AV.any, AV.any, AV.any, AV.any, AV.any, AV.any, AV.any, AV.any, AV.any, AV.any, AV.any, AV.any, AV.any, AV.any, AV.any, AV.any, AV.any, AV.any, AV.any, AV.any, AV.any, AV.any, AV.any, AV.any, AV.any, AV.any, AV.any] [some (Blk.mk false (74 : TypeId) (5 : Nat) true (List.map opE l)), some (Blk.mk true (nat_lit 84) (0 : Nat) true (AV.int IntKind.i64 w :: List.map roE (dT w (deR (List.map roE (emT t (tblT w l) p))) false (Ro.mk (Pf.mk (Ro.p (at' (tblT w l) p)).1 (Ro.p (at' (tblT w l) p)).2 (Ro.p (at' (tblT w l) p)).3) (0 : Int))))), some (Blk.mk true (48 : TypeId) (4 : Nat) true (List.map roE (tblT w l)))] = emSt w l t p' ∧ Nat.le p' (List.length (tblT w l)) ∧ List.length (tblT w l) + (1 : Nat) - p' < List.length (tblT w l) + (1 : Nat) - p)) ∧ (Decidable.decide ((↑p : Int) < (↑(List.length (List.map roE (tblT w l))) : Int)) = false → List.map roE (emT t (tblT w l) p) = List.map roE (deR (List.map roE (emT t (tblT w l) p))) ∧ tbR w (deR (List.map roE (emT t (tblT w l) p))) = true ∧ List.map roE (emT t (tblT w l) p) = List.map roE (deR (List.map roE (emT t (tblT w l) p))) ∧ tbR w (deR (List.map roE (emT t (tblT w l) p))) = true ∧ (ndR (deR (List.map roE (emT t (tblT w l) p))) == (1 : Int)) = true ∧ List.map roE (emT t (tblT w l) p) = List.map roE (deR (List.map roE (emT t (tblT w l) p))) ∧ tbR w (deR (List.map roE (emT t (tblT w l) p))) = true ∧ ((↑(List.length (deR (List.map roE (emT t (tblT w l) p)))) : Int) == (0 : Int)) = true ∧ (!Option.isSome (bsR (deR (List.map roE (emT t (tblT w l) p))) (BitVec.ofInt (64 : Nat) (0 : Int)) (BitVec.ofInt (64 : Nat) (0 : Int)))) = true ∧ List.map roE (emT t (tblT w l) p) = List.map roE (deR (List.map roE (emT t (tblT w l) p))) ∧ tbR w (deR (List.map roE (emT t (tblT w l) p))) = true ∧ ((↑(List.length (List.map roE (deR (List.map roE (emT t (tblT w l) p))))) : Int) == (0 : Int)) = true ∧ True ∧ true = true)))) := by kernel_rfl

theorem empties7_law (w : Int) (l : List OpR) (t : Bool) : ∃ hs, run l7Cs Try.prog 6 [.int .i64 w, .vsl 0 0 (l.map opE).length, .bool t] [some ⟨false, 74, 5, true, l.map opE⟩] hs isTrue := by
  refine ⟨(emH w l t), ?_⟩
  rw [empties7_run]
  refine ⟨fun _ => ⟨trivial, rfl⟩, fun h => ⟨fun _ => ⟨trivial, rfl⟩, fun hf => ?_⟩⟩
  have hl : l.length ≤ 14 := by simp only [decide_eq_false_iff_not, List.length_map] at h; omega
  have hw : w = 32 ∨ w = 128 := of_decide_eq_true (notF hf)
  have T := tblT_tb hw l (by omega)
  have hT := tblT_length w l
  have hlen : ((tblT w l).map roE).length = (tblT w l).length := List.length_map _
  simp only [whole_row, deO_map, deR_map, zLe, true_and, and_true, eq_self]
  refine ⟨hl, hw, rfl, ⟨?_, Nat.zero_le _⟩, fun p hp0 => ⟨fun hlt => ?_, fun hge => ?_⟩⟩
  · unfold emSt
    rw [emT_none]; rfl
  · have hp : p < (tblT w l).length := by have := of_decide_eq_true hlt; omega
    obtain ⟨Te, et, ef⟩ := emT_next T t hp
    constructor
    · intro e
      obtain ⟨e1, e2⟩ := et e
      have ei : ((((tblT w l).map roE).length : Int) - 1 - (p : Int)).toNat = (tblT w l).length - 1 - p := by omega
      refine ⟨inR (by omega) (by omega), inR (by omega) (by omega), by omega, read_rows (de := roE) (l := tblT w l) (k := (((tblT w l).map roE).length : Int) - 1 - (p : Int)) (by omega) (by omega) (by rw [ei]; exact rr_addr (at' (tblT w l) ((tblT w l).length - 1 - p))), by omega,
        read_rows (de := roE) (l := tblT w l) (k := (((tblT w l).map roE).length : Int) - 1 - (p : Int)) (by omega) (by omega) (by rw [ei]; exact ro_len (at' (tblT w l) ((tblT w l).length - 1 - p))), tbR_iff.2 Te, ?_, inR (by omega) (by omega), p + 1, ?_, hp, by omega⟩
      · rw [show dE w (emT t (tblT w l) p) false ⟨⟨(at' (tblT w l) ((tblT w l).length - 1 - p)).p.a, (at' (tblT w l) ((tblT w l).length - 1 - p)).p.b, (at' (tblT w l) ((tblT w l).length - 1 - p)).p.len⟩, 0⟩ = 0 from (dE_drop ..).trans e2]; rfl
      · unfold emSt
        rw [show dT w (emT t (tblT w l) p) false ⟨⟨(at' (tblT w l) ((tblT w l).length - 1 - p)).p.a, (at' (tblT w l) ((tblT w l).length - 1 - p)).p.b, (at' (tblT w l) ((tblT w l).length - 1 - p)).p.len⟩, 0⟩ = emT t (tblT w l) (p + 1) from (dT_drop ..).trans e1]; rfl
    · intro e
      obtain ⟨e1, e2⟩ := ef e
      refine ⟨by omega, read_rows (de := roE) (l := tblT w l) (k := (p : Int)) (by omega) (by omega) (rr_addr _), by omega, read_rows (de := roE) (l := tblT w l) (k := (p : Int)) (by omega) (by omega) (ro_len _), tbR_iff.2 Te, ?_, inR (by omega) (by omega), p + 1, ?_, hp, by omega⟩
      · rw [show dE w (emT t (tblT w l) p) false ⟨⟨(at' (tblT w l) p).p.a, (at' (tblT w l) p).p.b, (at' (tblT w l) p).p.len⟩, 0⟩ = 0 from (dE_drop ..).trans e2]; rfl
      · unfold emSt
        rw [show dT w (emT t (tblT w l) p) false ⟨⟨(at' (tblT w l) p).p.a, (at' (tblT w l) p).p.b, (at' (tblT w l) p).p.len⟩, 0⟩ = emT t (tblT w l) (p + 1) from (dT_drop ..).trans e1]; rfl
  · have hp : p = (tblT w l).length := by
      have := of_decide_eq_false hge
      have : p ≤ (tblT w l).length := hp0
      omega
    subst hp
    rw [emT_all, bsR_empty]
    have Tn := tbR_iff.2 (TB.nil hw)
    exact ⟨Tn, Tn, rfl, Tn, rfl, rfl, Tn, rfl⟩

end Go.Proofs.Ytfpofdlpgocnlaa.L1
