/-
  Layer 12: contracts of the program's calls: Kept, Gap, Insert, and what they call.
-/
import Derived.Test.YtmkppicnbjoijaaL12a
import Derived.Test.YtmkppicnbjoijaaL8a
import Derived.Test.YtmkppicnbjoijaaMa
namespace Go.Proofs.Ytmkppicnbjoijaa.L1
open Go.Sx Go.Sx.M

def ps12R (l : List Sl) : Option Blk := some ⟨false, 61, 7, true, l.map slE⟩
def wiA (x : Int) : AV := .int .i64 x
def wiR (w : List Int) : List AV := List.map wiA w
def wAt (w : List Int) (i : Nat) : Int := w.getD i 0
def ppR (w : List Wr) : List AV := List.map wrE w

/-- Kept: slices.IsSortedFunc's loop. -/
def kp12E (l : List Sl) : List AV := List.map enE (ensS l)
def kp12Fn : AV := .func (.func 50) [] []
def kp12St (l : List Sl) (k : Nat) : St := ⟨[.vsl 1 0 (kp12E l).length, kp12Fn, .any, .any, .any, .int .i64 ((k : Int) - 1), .any, .any, .any, .any, .any, .any, .any, .any, .any, .any, .any, .any, .any, .any, .any, .any, .any, .any, .any], [ps12R l, some ⟨true, 29, 6, true, kp12E l⟩]⟩
def kp12I (l : List Sl) (k : Nat) : Prop := k ≤ (kp12E l).length ∧ ∀ j, k ≤ j + 1 → j + 1 < (ensS l).length → (at' (ensS l) (j + 1)).len ≤ (at' (ensS l) j).len
def kp12M : Modes := ⟨[1, 1, 0, 0, 0, 1, 0, 0, 0, 0, 0, 0, 0, 0, 0, 0, 0, 0, 0, 0, 0, 0, 0, 0, 0], [], [], [], []⟩
def kp12M' : Modes := ⟨[0, 0, 0, 0, 2, 0, 0, 0, 0, 0, 0, 0, 0, 0, 0, 0, 0, 0, 0, 0, 0, 0, 0, 0, 0], [], [], [], []⟩
def kp12H (l : List Sl) : List Hint := [.nm (kp12E l), .nw, .linv _ (kp12E l).length (kp12St l) (kp12I l) (fun k => k) kp12M kp12M kp12M' (fun _ => []) fun k =>
  [.fork [.dy, .cell (enE (at' (ensS l) (k - 1))), .nw, .dy, .cell (enE (at' (ensS l) (k - 2))), .fork [] [.nw]] []]]

/-- Gap. -/
def gp12St (l : List Sl) (n : Int) (k : Nat) : St := ⟨[.any, .int .i64 n, .any, .any, .any, .any, .int .i64 (gpF l n k), .int .i64 (l.map slE).length, .any, .any, .any, .any, .any, .any, .any, .vsl 0 0 (l.map slE).length, .int .i64 (l.map slE).length, .int .i64 k, .any, .any, .any, .any, .any, .any, .any, .any, .any, .any, .any, .any, .any, .any, .any, .any, .any, .any, .any, .any, .any, .any, .any, .any, .any, .any, .any, .any], [ps12R l]⟩
def gp12I (l : List Sl) (n : Int) (k : Nat) : Prop := k ≤ l.length ∧ ∀ j, j < k → shS n (at' l j) = false
def gp12M0 : Modes := ⟨[0, 1, 0, 0, 0, 0, 2, 1, 0, 0, 0, 0, 0, 0, 0, 1, 1, 2, 0, 0, 0, 0, 0, 0, 0, 0, 0, 0, 0, 0, 0, 0, 0, 0, 0, 0, 0, 0, 0, 0, 0, 0, 0, 0, 0, 0], [], [], [], []⟩
def gp12M : Modes := ⟨[0, 1, 0, 0, 0, 0, 1, 1, 0, 0, 0, 0, 0, 0, 0, 1, 1, 1, 0, 0, 0, 0, 0, 0, 0, 0, 0, 0, 0, 0, 0, 0, 0, 0, 0, 0, 0, 0, 0, 0, 0, 0, 0, 0, 0, 0], [], [], [], []⟩
def gp12M' : Modes := ⟨[0, 0, 0, 0, 0, 0, 1, 1, 0, 0, 0, 0, 0, 0, 0, 0, 0, 0, 0, 0, 0, 0, 0, 0, 0, 0, 0, 0, 0, 0, 0, 0, 0, 0, 0, 0, 0, 0, 0, 0, 0, 0, 0, 0, 0, 0], [], [], [], []⟩
def gp12H (l : List Sl) (n : Int) : List Hint := [.fork [] [.linv _ 0 (gp12St l n) (gp12I l n) (fun k => l.length + 1 - k) gp12M0 gp12M gp12M' (fun _ => []) fun k =>
  [.fork [.dy, .cell (slE (at' l k)), .fork [.fork [.nw, .br true, .br false, .nw] [.br true, .fork [] [.nw]]] [.br false, .nw]] []]]]

noncomputable def gkept12Cs : List (FuncId × Sx.Spec) := [(22, genSpec [pSl] gentries8F),
  (51, genSpec [none, none] cmpzF)]

theorem gkept12_run (l : List Sl) (r : AV) : run gkept12Cs Try.prog 27 [.vsl 0 0 (l.map slE).length] [some ⟨false, (pSl.getD (0, 0)).1, (pSl.getD (0, 0)).2, true, (l.map slE)⟩] (kp12H l) (yields (.v r)) =
    ((0 : Nat) + List.length (List.map slE l) ≤ List.length (List.map slE l) ∧ List.take (List.length (List.map slE l)) (List.drop 0 (List.map slE l)) = List.map slE (deS (List.take (List.length (List.map slE l)) (List.drop 0 (List.map slE l)))) ∧ List.length (deS (List.take (List.length (List.map slE l)) (List.drop 0 (List.map slE l)))) ≤ (1000000 : Nat) ∧ (List.map enE (ensS (deS (List.take (List.length (List.map slE l)) (List.drop 0 (List.map slE l))))) = kp12E l ∧ List.length (List.map enE (ensS (deS (List.take (List.length (List.map slE l)) (List.drop 0 (List.map slE l)))))) = List.length (kp12E l)) ∧ inRange IntKind.i64 ((↑(List.length (kp12E l)) : Int) - (1 : Int)) ∧ (St.mk [AV.vsl ((0 : Nat) + (1 : Nat)) 0 (List.length (kp12E l)), AV.func (Fn.func 50) [] [], .any, .any, .any, AV.int IntKind.i64 ((↑(List.length (kp12E l)) : Int) - (1 : Int)), .any, .any, .any, .any, .any, .any, .any, .any, .any, .any, .any, .any, .any, .any, .any, .any, .any, .any, .any] [some (Blk.mk false (61 : TypeId) 7 true (List.map slE l)), some (Blk.mk true (29 : TypeId) 6 true (kp12E l))] = kp12St l (List.length (kp12E l)) ∧ kp12I l (List.length (kp12E l))) ∧ ∀ (p : Nat), kp12I l p → (Decidable.decide ((↑p : Int) - (1 : Int) > (0 : Int)) = true → ((0 : Int) ≤ (↑p : Int) - (1 : Int) ∧ (↑p : Int) - (1 : Int) < (↑(List.length (kp12E l)) : Int)) ∧ Blk.read Proofs.Try.prog (Blk.mk true (29 : TypeId) 6 true (kp12E l)) 29 ((0 : Nat) + Int.toNat ((↑p : Int) - (1 : Int))) 0 = some (AV.agg [AV.w64 (at' (ensS l) (p - (1 : Nat))).1, AV.w64 (at' (ensS l) (p - (1 : Nat))).2, AV.w64 (at' (ensS l) (p - (1 : Nat))).3, AV.w64 (at' (ensS l) (p - (1 : Nat))).4, AV.int IntKind.i64 (at' (ensS l) (p - (1 : Nat))).5, AV.int IntKind.i64 (at' (ensS l) (p - (1 : Nat))).6]) ∧ inRange IntKind.i64 ((↑p : Int) - (1 : Int) - (1 : Int)) ∧ ((0 : Int) ≤ (↑p : Int) - (1 : Int) - (1 : Int) ∧ (↑p : Int) - (1 : Int) - (1 : Int) < (↑(List.length (kp12E l)) : Int)) ∧ Blk.read Proofs.Try.prog (Blk.mk true (29 : TypeId) 6 true (kp12E l)) 29 ((0 : Nat) + Int.toNat ((↑p : Int) - (1 : Int) - (1 : Int))) 0 = some (AV.agg [AV.w64 (at' (ensS l) (p - (2 : Nat))).1, AV.w64 (at' (ensS l) (p - (2 : Nat))).2, AV.w64 (at' (ensS l) (p - (2 : Nat))).3, AV.w64 (at' (ensS l) (p - (2 : Nat))).4, AV.int IntKind.i64 (at' (ensS l) (p - (2 : Nat))).5, AV.int IntKind.i64 (at' (ensS l) (p - (2 : Nat))).6]) ∧ (Decidable.decide (cmpZ (at' (ensS l) (p - (2 : Nat))).5 (at' (ensS l) (p - (1 : Nat))).5 < (0 : Int)) = true → AV.bool false = r) ∧ (Decidable.decide (cmpZ (at' (ensS l) (p - (2 : Nat))).5 (at' (ensS l) (p - (1 : Nat))).5 < (0 : Int)) = false → inRange IntKind.i64 ((↑p : Int) - (1 : Int) - (1 : Int)) ∧ ∃ (p' : Nat), St.mk [AV.vsl ((0 : Nat) + (1 : Nat)) 0 (List.length (kp12E l)), AV.func (Fn.func (50 : FuncId)) [] [], .any, .any, .any, AV.int IntKind.i64 ((↑p : Int) - (1 : Int) - (1 : Int)), .any, .any, .any, .any, .any, .any, .any, .any, .any, .any, .any, .any, .any, .any, .any, .any, .any, .any, .any] [some (Blk.mk false (61 : TypeId) 7 true (List.map slE l)), some (Blk.mk true (29 : TypeId) 6 true (kp12E l))] = kp12St l p' ∧ kp12I l p' ∧ p' < p)) ∧ (Decidable.decide ((↑p : Int) - (1 : Int) > (0 : Int)) = false → AV.bool true = r)) := by kernel_rfl

theorem gkept12Cs_ok : ∀ e ∈ gkept12Cs, SpecOK Try.prog e.1 e.2 := by
  intro e he
  simp only [gkept12Cs, List.mem_cons, List.not_mem_nil, or_false] at he
  rcases he with rfl | rfl
  · exact gentries8_ok
  · exact cmpz_ok

theorem gkept12_ok : SpecOK Try.prog 27 (genSpec [pSl] gkept12F) := by
  refine genSpec_ok (run_ok (l := gkept12Cs) gkept12Cs_ok mixed noNG) fun l R hF => ?_
  unfold gkept12F at hF
  split at hF
  · rename_i r_l
    obtain ⟨hr_l, hl, hF⟩ := hF
    generalize deS r_l = l at hr_l hl hF
    subst hr_l
    refine ⟨_, hF, rfl, (kp12H l), ?_⟩
    show run gkept12Cs Try.prog _ [.vsl 0 0 (l.map slE).length] [some ⟨false, (pSl.getD (0, 0)).1, (pSl.getD (0, 0)).2, true, (l.map slE)⟩] _ _
    rw [gkept12_run]
    have hE : (List.map enE (ensS l)).length = (ensS l).length := List.length_map _
    have hE2 : (kp12E l).length = (ensS l).length := List.length_map _
    have hEl : (ensS l).length ≤ l.length := ensS_length l
    simp only [whole_row, deS_map, zLe, true_and, hl]
    refine ⟨⟨rfl, rfl⟩, inR (by omega) (by omega), ⟨rfl, Nat.le_refl _, fun j h1 h2 => by omega⟩, ?_⟩
    rintro p ⟨hp0, hI⟩
    refine ⟨fun hgt => ?_, fun hle => ?_⟩
    · have hp : 1 < p := by have := of_decide_eq_true hgt; omega
      have e1 : ((p : Int) - 1).toNat = p - 1 := by omega
      have e2 : ((p : Int) - 1 - 1).toNat = p - 2 := by omega
      have B1 : 0 ≤ (p : Int) - 1 ∧ (p : Int) - 1 < ((List.map enE (ensS l)).length : Int) := by omega
      have B2 : 0 ≤ (p : Int) - 1 - 1 ∧ (p : Int) - 1 - 1 < ((List.map enE (ensS l)).length : Int) := by omega
      have i2 : inRange .i64 ((p : Int) - 1 - 1) := inR (by omega) (by omega)
      have hc : cmpZ (at' (ensS l) (p - 2)).len (at' (ensS l) (p - 1)).len < 0 ↔ (at' (ensS l) (p - 2)).len < (at' (ensS l) (p - 1)).len := by
        unfold cmpZ
        split
        · omega
        · split <;> omega
      refine ⟨B1, read_rows B1.1 B1.2 (by rw [e1]; exact en_whole _), i2, B2, read_rows B2.1 B2.2 (by rw [e2]; exact en_whole _), fun h => ?_, fun h => ⟨i2, p - 1, ?_, ⟨by omega, fun j h1 h2 => ?_⟩, by omega⟩⟩
      · have h := hc.1 (of_decide_eq_true h)
        cases hk : kpS l with
        | false => rfl
        | true =>
          have := kp_chain.1 hk (p - 2) (by omega)
          rw [show p - 2 + 1 = p - 1 from by omega] at this
          omega
      · unfold kp12St
        rw [show ((p - 1 : Nat) : Int) - 1 = (p : Int) - 1 - 1 from by omega]
        rfl
      · rcases Nat.lt_or_ge (j + 1) p with hj | hj
        · have h : ¬ (at' (ensS l) (p - 2)).len < (at' (ensS l) (p - 1)).len := fun x => of_decide_eq_false h (hc.2 x)
          obtain rfl : j = p - 2 := by omega
          rw [show p - 2 + 1 = p - 1 from by omega]
          omega
        · exact hI j hj h2
    · have hp : p ≤ 1 := by have := of_decide_eq_false hle; omega
      rw [kp_chain.2 fun j hj => hI j (by omega) hj]
  · exact hF.elim


noncomputable def ggap12Cs : List (FuncId × Sx.Spec) := [(27, genSpec [pSl] gkept12F)]

theorem ggap12_run (l : List Sl) (n : Int) (r : AV) : run ggap12Cs Try.prog 28 [.vsl 0 0 (l.map slE).length, .int .i64 n] [some ⟨false, (pSl.getD (0, 0)).1, (pSl.getD (0, 0)).2, true, (l.map slE)⟩] (gp12H l n) (yields (.v r)) =
    ((0 : Nat) + List.length (List.map slE l) ≤ List.length (List.map slE l) ∧ List.take (List.length (List.map slE l)) (List.drop 0 (List.map slE l)) = List.map slE (deS (List.take (List.length (List.map slE l)) (List.drop 0 (List.map slE l)))) ∧ List.length (deS (List.take (List.length (List.map slE l)) (List.drop 0 (List.map slE l)))) ≤ (1000000 : Nat) ∧ ((!kpS (deS (List.take (List.length (List.map slE l)) (List.drop 0 (List.map slE l))))) = true → AV.tuple [AV.int IntKind.i64 0, AV.int IntKind.i64 0] = r) ∧ ((!kpS (deS (List.take (List.length (List.map slE l)) (List.drop 0 (List.map slE l))))) = false → (St.mk [.any, AV.int IntKind.i64 n, .any, .any, .any, .any, AV.int IntKind.i64 0, AV.int IntKind.i64 (↑(List.length (List.map slE l)) : Int), .any, .any, .any, .any, .any, .any, .any, AV.vsl 0 0 (List.length (List.map slE l)), AV.int IntKind.i64 (↑(List.length (List.map slE l)) : Int), AV.int IntKind.i64 0, .any, .any, .any, .any, .any, .any, .any, .any, .any, .any, .any, .any, .any, .any, .any, .any, .any, .any, .any, .any, .any, .any, .any, .any, .any, .any, .any, .any] [some (Blk.mk false (61 : TypeId) 7 true (List.map slE l))] = gp12St l n 0 ∧ gp12I l n 0) ∧ ∀ (p : Nat), gp12I l n p → (Decidable.decide ((↑p : Int) < (↑(List.length (List.map slE l)) : Int)) = true → ((0 : Int) ≤ (↑p : Int) ∧ (↑p : Int) < (↑(List.length (List.map slE l)) : Int)) ∧ Blk.read Proofs.Try.prog (Blk.mk false (61 : TypeId) 7 true (List.map slE l)) 61 ((0 : Nat) + Int.toNat (↑p : Int)) 0 = some (AV.agg [AV.bool (at' l p).1, AV.w64 (Sl.e (at' l p)).1, AV.w64 (Sl.e (at' l p)).2, AV.w64 (Sl.e (at' l p)).3, AV.w64 (Sl.e (at' l p)).4, AV.int IntKind.i64 (Sl.e (at' l p)).5, AV.int IntKind.i64 (Sl.e (at' l p)).6]) ∧ ((at' l p).1 = true → (Decidable.decide ((Sl.e (at' l p)).5 > n) = true → inRange IntKind.i64 ((↑p : Int) + (1 : Int)) ∧ (at' l p).1 = true ∧ Decidable.decide ((Sl.e (at' l p)).5 < n) = false ∧ inRange IntKind.i64 ((↑p : Int) + (1 : Int)) ∧ ∃ (p' : Nat), St.mk [.any, AV.int IntKind.i64 n, .any, .any, .any, .any, AV.int IntKind.i64 ((↑p : Int) + (1 : Int)), AV.int IntKind.i64 (↑(List.length (List.map slE l)) : Int), .any, .any, .any, .any, .any, .any, .any, AV.vsl 0 0 (List.length (List.map slE l)), AV.int IntKind.i64 (↑(List.length (List.map slE l)) : Int), AV.int IntKind.i64 ((↑p : Int) + (1 : Int)), .any, .any, .any, .any, .any, .any, .any, .any, .any, .any, .any, .any, .any, .any, .any, .any, .any, .any, .any, .any, .any, .any, .any, .any, .any, .any, .any, .any] [some (Blk.mk false (61 : TypeId) 7 true (List.map slE l))] = gp12St l n p' ∧ gp12I l n p' ∧ List.length l + (1 : Nat) - p' < List.length l + (1 : Nat) - p) ∧ (Decidable.decide ((Sl.e (at' l p)).5 > n) = false → (at' l p).1 = true ∧ (Decidable.decide ((Sl.e (at' l p)).5 < n) = true → AV.tuple [AV.int IntKind.i64 (↑(gpF l n p) : Int), AV.int IntKind.i64 (↑p : Int)] = r) ∧ (Decidable.decide ((Sl.e (at' l p)).5 < n) = false → inRange IntKind.i64 ((↑p : Int) + (1 : Int)) ∧ ∃ (p' : Nat), St.mk [.any, AV.int IntKind.i64 n, .any, .any, .any, .any, AV.int IntKind.i64 (↑(gpF l n p) : Int), AV.int IntKind.i64 (↑(List.length (List.map slE l)) : Int), .any, .any, .any, .any, .any, .any, .any, AV.vsl 0 0 (List.length (List.map slE l)), AV.int IntKind.i64 (↑(List.length (List.map slE l)) : Int), AV.int IntKind.i64 ((↑p : Int) + (1 : Int)), .any, .any, .any, .any, .any, .any, .any, .any, .any, .any, .any, .any, .any, .any, .any, .any, .any, .any, .any, .any, .any, .any, .any, .any, .any, .any, .any, .any] [some (Blk.mk false (61 : TypeId) 7 true (List.map slE l))] = gp12St l n p' ∧ gp12I l n p' ∧ List.length l + (1 : Nat) - p' < List.length l + (1 : Nat) - p))) ∧ ((at' l p).1 = false → (at' l p).1 = false ∧ inRange IntKind.i64 ((↑p : Int) + (1 : Int)) ∧ ∃ (p' : Nat), St.mk [.any, AV.int IntKind.i64 n, .any, .any, .any, .any, AV.int IntKind.i64 (↑(gpF l n p) : Int), AV.int IntKind.i64 (↑(List.length (List.map slE l)) : Int), .any, .any, .any, .any, .any, .any, .any, AV.vsl 0 0 (List.length (List.map slE l)), AV.int IntKind.i64 (↑(List.length (List.map slE l)) : Int), AV.int IntKind.i64 ((↑p : Int) + (1 : Int)), .any, .any, .any, .any, .any, .any, .any, .any, .any, .any, .any, .any, .any, .any, .any, .any, .any, .any, .any, .any, .any, .any, .any, .any, .any, .any, .any, .any] [some (Blk.mk false (61 : TypeId) 7 true (List.map slE l))] = gp12St l n p' ∧ gp12I l n p' ∧ List.length l + (1 : Nat) - p' < List.length l + (1 : Nat) - p)) ∧ (Decidable.decide ((↑p : Int) < (↑(List.length (List.map slE l)) : Int)) = false → AV.tuple [AV.int IntKind.i64 (↑(gpF l n p) : Int), AV.int IntKind.i64 (↑(List.length (List.map slE l)) : Int)] = r))) := by kernel_rfl

theorem ggap12Cs_ok : ∀ e ∈ ggap12Cs, SpecOK Try.prog e.1 e.2 := by
  intro e he
  simp only [ggap12Cs, List.mem_cons, List.not_mem_nil, or_false] at he
  rcases he with rfl
  · exact gkept12_ok

theorem ggap12_ok : SpecOK Try.prog 28 (genSpec [pSl, none] ggap12F) := by
  refine genSpec_ok (run_ok (l := ggap12Cs) ggap12Cs_ok mixed noNG) fun l R hF => ?_
  unfold ggap12F at hF
  split at hF
  · rename_i r_l n
    obtain ⟨hr_l, hl, hF⟩ := hF
    generalize deS r_l = l at hr_l hl hF
    subst hr_l
    refine ⟨_, hF, rfl, (gp12H l n), ?_⟩
    show run ggap12Cs Try.prog _ [.vsl 0 0 (l.map slE).length, .int .i64 n] [some ⟨false, (pSl.getD (0, 0)).1, (pSl.getD (0, 0)).2, true, (l.map slE)⟩] _ _
    rw [ggap12_run]
    have hlm : (l.map slE).length = l.length := List.length_map _
    simp only [whole_row, deS_map, zLe, true_and, hl]
    refine ⟨fun h => ?_, fun h => ?_⟩
    · rw [notTT h]; rfl
    have hk := notF h
    have hK := kpS_iff.1 hk
    refine ⟨⟨rfl, Nat.zero_le _, fun j hj => absurd hj (Nat.not_lt_zero _)⟩, ?_⟩
    rintro p ⟨hp0, hI⟩
    have i0 : inRange .i64 ((p : Int) + 1) := inR (by omega) (by omega)
    refine ⟨fun hlt => ?_, fun hge => ?_⟩
    · have hp : p < l.length := by have := of_decide_eq_true hlt; omega
      have B : 0 ≤ (p : Int) ∧ (p : Int) < ((l.map slE).length : Int) := by omega
      have g1 : gpF l n (p + 1) = if loS n (at' l p) then p + 1 else gpF l n p := rfl
      have nx : shS n (at' l p) = false → gp12I l n (p + 1) := fun h => ⟨hp, fun j hj => by
        rcases Nat.lt_or_ge j p with h1 | h1
        · exact hI j h1
        · obtain rfl : j = p := by omega
          exact h⟩
      refine ⟨B, read_rows B.1 B.2 (sl_whole _), fun ho => ⟨fun hgt => ⟨i0, ho, ?_, i0, p + 1, ?_, nx ?_, by omega⟩, fun hng => ⟨ho, fun hsh => ?_, fun hns => ⟨i0, p + 1, ?_, nx ?_, by omega⟩⟩⟩, fun ho => ⟨ho, i0, p + 1, ?_, nx (sh_none ho), by omega⟩⟩
      · have := of_decide_eq_true hgt
        exact decide_eq_false (by omega)
      · have : loS n (at' l p) = true := by unfold loS; rw [show (at' l p).ok = true from ho]; exact hgt
        rw [if_pos this] at g1
        unfold gp12St
        rw [g1]; rfl
      · have := of_decide_eq_true hgt
        unfold shS
        rw [decide_eq_false (by omega), Bool.and_false]
      · have hs : shS n (at' l p) = true := by unfold shS; rw [show (at' l p).ok = true from ho]; exact hsh
        rw [hk, if_pos rfl, if_pos rfl, gt_at hs hI, gf_at (by omega) (lo_behind hK hs)]
      · have : loS n (at' l p) = false := by unfold loS; rw [show (at' l p).ok = true from ho]; exact hng
        rw [if_neg (by rw [this]; simp)] at g1
        unfold gp12St
        rw [g1]; rfl
      · unfold shS
        rw [show (at' l p).ok = true from ho]; exact hns
      · rw [if_neg (by rw [lo_none ho]; simp)] at g1
        unfold gp12St
        rw [g1]; rfl
    · have hp : p = l.length := by have := of_decide_eq_false hge; omega
      subst hp
      rw [hk, if_pos rfl, if_pos rfl, gt_end hI, hlm]
      rfl
  · exact hF.elim


end Go.Proofs.Ytmkppicnbjoijaa.L1
