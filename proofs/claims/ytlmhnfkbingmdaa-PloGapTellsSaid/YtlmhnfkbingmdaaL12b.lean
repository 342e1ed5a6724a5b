/-
  Texts in one: L12P L12R L12L L12Q.
-/
import Derived.Test.YtlmhnfkbingmdaaL12a
import Derived.Test.YtlmhnfkbingmdaaL8a
import Derived.Test.YtlmhnfkbingmdaaMa

section
/-
  Layer 12: contracts of the program's calls: Kept, Gap, Insert, and what they call.
-/
namespace Go.Proofs.Ytlmhnfkbingmdaa.L1
open Go.Sx Go.Sx.M

def ps12R (l : List Sl) : Option Blk := some ⟨false, 58, 7, true, l.map slE⟩
def wiA (x : Int) : AV := .int .i64 x
def wiR (w : List Int) : List AV := List.map wiA w
def wAt (w : List Int) (i : Nat) : Int := w.getD i 0
def ppR (w : List Wr) : List AV := List.map wrE w

/-- Kept: slices.IsSortedFunc's loop. -/
def kp12E (l : List Sl) : List AV := List.map enE (ensS l)
def kp12Fn : AV := .func (.func 36) [] []
def kp12St (l : List Sl) (k : Nat) : St := ⟨[.vsl 1 0 (kp12E l).length, kp12Fn, .any, .any, .any, .int .i64 ((k : Int) - 1), .any, .any, .any, .any, .any, .any, .any, .any, .any, .any, .any, .any, .any, .any, .any, .any, .any, .any, .any], [ps12R l, some ⟨true, 29, 6, true, kp12E l⟩]⟩
def kp12I (l : List Sl) (k : Nat) : Prop := k ≤ (kp12E l).length ∧ ∀ j, k ≤ j + 1 → j + 1 < (ensS l).length → (at' (ensS l) (j + 1)).len ≤ (at' (ensS l) j).len
def kp12M : Modes := ⟨[1, 1, 0, 0, 0, 1, 0, 0, 0, 0, 0, 0, 0, 0, 0, 0, 0, 0, 0, 0, 0, 0, 0, 0, 0], [], [], [], []⟩
def kp12M' : Modes := ⟨[0, 0, 0, 0, 2, 0, 0, 0, 0, 0, 0, 0, 0, 0, 0, 0, 0, 0, 0, 0, 0, 0, 0, 0, 0], [], [], [], []⟩
def kp12H (l : List Sl) : List Hint := [.nm (kp12E l), .nw, .linv _ (kp12E l).length (kp12St l) (kp12I l) (fun k => k) kp12M kp12M kp12M' (fun _ => []) fun k =>
  [.fork [.dy, .cell (enE (at' (ensS l) (k - 1))), .nw, .dy, .cell (enE (at' (ensS l) (k - 2))), .fork [] [.nw]] []]]

/-- Gap. -/
def gp12St (l : List Sl) (n : Int) (k : Nat) : St := ⟨[.any, .int .i64 n, .any, .any, .any, .any, .int .i64 (gpF l n k), .int .i64 (l.map slE).length, .any, .any, .any, .any, .any, .any, .any, .vsl 0 0 (l.map slE).length, .int .i64 (l.map slE).length, .int .i64 k, .any, .any, .any, .any, .any, .any, .any, .any, .any, .any, .any, .any, .any, .any, .any, .any, .any, .any, .any, .any, .any, .any, .any, .any, .any, .any, .any, .any], [ps12R l]⟩
def gp12I (l : List Sl) (n : Int) (k : Nat) : Prop := k ≤ l.length ∧ ∀ j, j < k → shS n (at' l j) = false
def gp12M0 : Modes := ⟨[0, 1, 0, 0, 0, 0, 2, 1, 0, 0, 0, 0, 0, 0, 0, 1, 1, 2, 0, 0, 0, 0, 0, 0, 0, 0, 0, 0, 0, 0, 0, 0, 0, 0, 0, 0, 0, 0, 0, 0, 0, 0, 0, 0, 0, 0], [], [], [], []⟩
def gp12M : Modes := ⟨[0, 1, 0, 0, 0, 0, 1, 1, 0, 0, 0, 0, 0, 0, 0, 1, 1, 1, 0, 0, 0, 0, 0, 0, 0, 0, 0, 0, 0, 0, 0, 0, 0, 0, 0, 0, 0, 0, 0, 0, 0, 0, 0, 0, 0, 0], [], [], [], []⟩
def gp12M' : Modes := ⟨[0, 0, 0, 0, 0, 0, 1, 1, 0, 0, 0, 0, 0, 0, 0, 0, 0, 0, 0, 0, 0, 0, 0, 0, 0, 0, 0, 0, 0, 0, 0, 0, 0, 0, 0, 0, 0, 0, 0, 0, 0, 0, 0, 0, 0, 0], [], [], [], []⟩
def gp12H (l : List Sl) (n : Int) : List Hint := [.fork [] [.linv _ 0 (gp12St l n) (gp12I l n) (fun k => l.length + 1 - k) gp12M0 gp12M gp12M' (fun _ => []) fun k =>
  [.fork [.dy, .cell (slE (at' l k)), .fork [.fork [.nw, .br true, .br false, .nw] [.br true, .fork [] [.nw]]] [.br false, .nw]] []]]]

/-- The first empty slot, the last one. -/
def ff12Fn : AV := .func (.func 55) [] []
def ff12St (l : List Sl) (p : Nat) : St := ⟨[.vsl 0 0 (l.map slE).length, ff12Fn, .any, .any, .any, .any, .any, .int .i64 (l.map slE).length, .int .i64 p, .any, .any, .any, .any, .any, .any, .any, .any, .any, .any], [ps12R l]⟩
def ff12I (l : List Sl) (p : Nat) : Prop := p ≤ l.length ∧ ∀ j, j < p → (at' l j).ok = true
def ff12M0 : Modes := ⟨[1, 1, 0, 0, 0, 0, 0, 1, 2, 0, 0, 0, 0, 0, 0, 0, 0, 0, 0], [], [], [], []⟩
def ff12M : Modes := ⟨[1, 1, 0, 0, 0, 0, 0, 1, 1, 0, 0, 0, 0, 0, 0, 0, 0, 0, 0], [], [], [], []⟩
def ff12M' : Modes := ⟨[0, 0, 0, 0, 2, 0, 0, 0, 0, 0, 0, 0, 0, 0, 0, 0, 0, 0, 0], [], [], [], []⟩
def ff12H (l : List Sl) : List Hint := [.linv _ 0 (ff12St l) (ff12I l) (fun p => l.length + 1 - p) ff12M0 ff12M ff12M' (fun _ => []) fun p =>
  [.fork [.dy, .cell (slE (at' l p)), .fork [] [.nw]] []]]
def lf12St (l : List Sl) (y : Nat) (k : Nat) : St := ⟨[.func (.yield y) [] [], .ptr 2 0 0 true, .any, .int .i64 ((k : Int) - 1), .any, .any, .any, .any, .any, .any, .any, .any, .any, .any, .any, .any, .any, .any, .any], [ps12R l, some ⟨true, 3, 1, true, [.lit (.int .i64 0)]⟩, some ⟨true, 22, 1, false, [.vsl 0 0 (l.map slE).length]⟩]⟩
def lf12I (l : List Sl) (k : Nat) : Prop := k ≤ l.length ∧ ∀ j, k ≤ j → j < l.length → (at' l j).ok = true
def lf12M : Modes := ⟨[1, 1, 0, 1, 0, 0, 0, 0, 0, 0, 0, 0, 0, 0, 0, 0, 0, 0, 0], [], [], [], []⟩
def lf12M' : Modes := ⟨[1, 1, 0, 0, 0, 0, 0, 0, 0, 0, 0, 0, 0, 0, 0, 0, 0, 0, 0], [], [], [], []⟩
def lf12H (l : List Sl) : List Hint := [.inl fun y => [.nw, .linv _ l.length (lf12St l y) (lf12I l) (fun k => k) lf12M lf12M lf12M' (fun _ => []) fun k =>
  [.fork [.dy, .cell (slE (at' l (k - 1))), .fork [] [.nw]] []]]]

/-- A way. -/
def wy12St (l : List Sl) (t e s : Int) (q : List Int × Nat) : St := ⟨[.vsl 0 0 (l.map slE).length, .any, .int .i64 e, .int .i64 s, .any, .any, .any, .any, .any, .vsl 1 0 q.1.length, .int .i64 (t + s * ((q.2 : Int) + 1)), .any, .any, .any, .any, .any, .any, .any, .any, .any, .any, .any, .any, .any, .any, .any, .any, .any, .any, .any, .any, .any, .any, .any, .any, .any, .any, .any, .any, .any, .any, .any, .any, .any, .any], [ps12R l, some ⟨true, 3, 1, true, wiR q.1⟩]⟩
def wyN (t e : Int) : Nat := (e - t).natAbs - 1
def wy12I (l : List Sl) (t s : Int) (N : Nat) (q : List Int × Nat) : Prop := q.2 ≤ N ∧ q.1 ++ wyS l t s q.2 (N - q.2) = wyL l t s N
def wy12M0 : Modes := ⟨[1, 0, 1, 1, 0, 0, 0, 0, 0, 1, 1, 0, 0, 0, 0, 0, 0, 0, 0, 0, 0, 0, 0, 0, 0, 0, 0, 0, 0, 0, 0, 0, 0, 0, 0, 0, 0, 0, 0, 0, 0, 0, 0, 0, 0], [], [], [9], []⟩
def wy12M : Modes := ⟨[1, 0, 1, 1, 0, 0, 0, 0, 0, 1, 1, 0, 0, 0, 0, 0, 0, 0, 0, 0, 0, 0, 0, 0, 0, 0, 0, 0, 0, 0, 0, 0, 0, 0, 0, 0, 0, 0, 0, 0, 0, 0, 0, 0, 0], [], [], [], []⟩
def wy12M' : Modes := ⟨[0, 0, 1, 0, 0, 0, 0, 0, 0, 1, 0, 0, 0, 0, 0, 0, 0, 0, 0, 0, 0, 0, 0, 0, 0, 0, 0, 0, 0, 0, 0, 0, 0, 0, 0, 0, 0, 0, 0, 0, 0, 0, 0, 0, 0], [], [], [], []⟩
def wy12L (l : List Sl) (t s : Int) (d : Nat) : AV := .int .i64 (wyF l t s d)
def wy12H (l : List Sl) (t e s : Int) : List Hint := [.nw, .linv _ ([t], 0) (wy12St l t e s) (wy12I l t s (wyN t e)) (fun q => wyN t e - q.2) wy12M0 wy12M wy12M' (fun _ => [.rows (wiR (wyL l t s (wyN t e)))]) fun q =>
  [.fork [.dy, .cell (wy12L l t s (q.2 + 1)), .nw, .dy, .cell (wy12L l t s (q.2 + 2)), .fork [.rows (wiR (q.1 ++ [wyP t s (q.2 + 1)])), .nw] [.nw]] []]]

def gff12F : List Arg → (Res → Prop) → Prop
  | [.row r_l], R => r_l = (deS r_l).map slE ∧ (deS r_l).length ≤ 1000000 ∧ R (.v (.int .i64 (geS (deS r_l) (deS r_l).length 0)))
  | _, _ => False

def glf12F : List Arg → (Res → Prop) → Prop
  | [.row r_l], R => r_l = (deS r_l).map slE ∧ (deS r_l).length ≤ 1000000 ∧ R (.v (.int .i64 (upS (deS r_l) (deS r_l).length)))
  | _, _ => False

def gway12F : List Arg → (Res → Prop) → Prop
  | [.row r_l, .v (.int .i64 t), .v (.int .i64 e), .v (.int .i64 s)], R => r_l = (deS r_l).map slE ∧ (deS r_l).length ≤ 1000000 ∧
      ((0 ≤ t ∧ t < (deS r_l).length ∧ 0 ≤ e ∧ e < (deS r_l).length) ∧ ((s = 1 ∧ t < e) ∨ (s = -1 ∧ e < t))) ∧ R (.vrow 3 1 (wiR (wyL (deS r_l) t s (wyN t e))))
  | _, _ => False

def gshort12F : List Arg → (Res → Prop) → Prop
  | [.row r_l, .v (.int .i64 n)], R => r_l = (deS r_l).map slE ∧ (deS r_l).length ≤ 1000000 ∧ (kpS (deS r_l) = true ∧ ¬ (inG (deS r_l) n < 0 ∧ dnG (deS r_l) n < 0 ∧ upG (deS r_l) n < 0)) ∧ R (.vrow 3 1 (wiR (wsL (deS r_l) n)))
  | _, _ => False

noncomputable def gkept12Cs : List (FuncId × Sx.Spec) := [(35, genSpec [pSl] gentries8F),
  (37, genSpec [none, none] cmpzF)]

theorem gkept12_run (l : List Sl) (r : AV) : run gkept12Cs Try.prog 17 [.vsl 0 0 (l.map slE).length] [some ⟨false, (pSl.getD (0, 0)).1, (pSl.getD (0, 0)).2, true, (l.map slE)⟩] (kp12H l) (yields (.v r)) =
    ((0 : Nat) + List.length (List.map slE l) ≤ List.length (List.map slE l) ∧ List.take (List.length (List.map slE l)) (List.drop 0 (List.map slE l)) = List.map slE (deS (List.take (List.length (List.map slE l)) (List.drop 0 (List.map slE l)))) ∧ List.length (deS (List.take (List.length (List.map slE l)) (List.drop 0 (List.map slE l)))) ≤ (1000000 : Nat) ∧ (List.map enE (ensS (deS (List.take (List.length (List.map slE l)) (List.drop 0 (List.map slE l))))) = kp12E l ∧ List.length (List.map enE (ensS (deS (List.take (List.length (List.map slE l)) (List.drop 0 (List.map slE l)))))) = List.length (kp12E l)) ∧ inRange IntKind.i64 ((↑(List.length (kp12E l)) : Int) - (1 : Int)) ∧ (St.mk [AV.vsl ((0 : Nat) + (1 : Nat)) 0 (List.length (kp12E l)), AV.func (Fn.func 36) [] [], .any, .any, .any, AV.int IntKind.i64 ((↑(List.length (kp12E l)) : Int) - (1 : Int)), .any, .any, .any, .any, .any, .any, .any, .any, .any, .any, .any, .any, .any, .any, .any, .any, .any, .any, .any] [some (Blk.mk false (58 : TypeId) 7 true (List.map slE l)), some (Blk.mk true (29 : TypeId) 6 true (kp12E l))] = kp12St l (List.length (kp12E l)) ∧ kp12I l (List.length (kp12E l))) ∧ ∀ (p : Nat), kp12I l p → (Decidable.decide ((↑p : Int) - (1 : Int) > (0 : Int)) = true → ((0 : Int) ≤ (↑p : Int) - (1 : Int) ∧ (↑p : Int) - (1 : Int) < (↑(List.length (kp12E l)) : Int)) ∧ Blk.read Proofs.Try.prog (Blk.mk true (29 : TypeId) 6 true (kp12E l)) 29 ((0 : Nat) + Int.toNat ((↑p : Int) - (1 : Int))) 0 = some (AV.agg [AV.w64 (at' (ensS l) (p - (1 : Nat))).1, AV.w64 (at' (ensS l) (p - (1 : Nat))).2, AV.w64 (at' (ensS l) (p - (1 : Nat))).3, AV.w64 (at' (ensS l) (p - (1 : Nat))).4, AV.int IntKind.i64 (at' (ensS l) (p - (1 : Nat))).5, AV.int IntKind.i64 (at' (ensS l) (p - (1 : Nat))).6]) ∧ inRange IntKind.i64 ((↑p : Int) - (1 : Int) - (1 : Int)) ∧ ((0 : Int) ≤ (↑p : Int) - (1 : Int) - (1 : Int) ∧ (↑p : Int) - (1 : Int) - (1 : Int) < (↑(List.length (kp12E l)) : Int)) ∧ Blk.read Proofs.Try.prog (Blk.mk true (29 : TypeId) 6 true (kp12E l)) 29 ((0 : Nat) + Int.toNat ((↑p : Int) - (1 : Int) - (1 : Int))) 0 = some (AV.agg [AV.w64 (at' (ensS l) (p - (2 : Nat))).1, AV.w64 (at' (ensS l) (p - (2 : Nat))).2, AV.w64 (at' (ensS l) (p - (2 : Nat))).3, AV.w64 (at' (ensS l) (p - (2 : Nat))).4, AV.int IntKind.i64 (at' (ensS l) (p - (2 : Nat))).5, AV.int IntKind.i64 (at' (ensS l) (p - (2 : Nat))).6]) ∧ (Decidable.decide (cmpZ (at' (ensS l) (p - (2 : Nat))).5 (at' (ensS l) (p - (1 : Nat))).5 < (0 : Int)) = true → AV.bool false = r) ∧ (Decidable.decide (cmpZ (at' (ensS l) (p - (2 : Nat))).5 (at' (ensS l) (p - (1 : Nat))).5 < (0 : Int)) = false → inRange IntKind.i64 ((↑p : Int) - (1 : Int) - (1 : Int)) ∧ ∃ (p' : Nat), St.mk [AV.vsl ((0 : Nat) + (1 : Nat)) 0 (List.length (kp12E l)), AV.func (Fn.func (36 : FuncId)) [] [], .any, .any, .any, AV.int IntKind.i64 ((↑p : Int) - (1 : Int) - (1 : Int)), .any, .any, .any, .any, .any, .any, .any, .any, .any, .any, .any, .any, .any, .any, .any, .any, .any, .any, .any] [some (Blk.mk false (58 : TypeId) 7 true (List.map slE l)), some (Blk.mk true (29 : TypeId) 6 true (kp12E l))] = kp12St l p' ∧ kp12I l p' ∧ p' < p)) ∧ (Decidable.decide ((↑p : Int) - (1 : Int) > (0 : Int)) = false → AV.bool true = r)) := by kernel_rfl

theorem gkept12Cs_ok : ∀ e ∈ gkept12Cs, SpecOK Try.prog e.1 e.2 := by
  intro e he
  simp only [gkept12Cs, List.mem_cons, List.not_mem_nil, or_false] at he
  rcases he with rfl | rfl
  · exact gentries8_ok
  · exact cmpz_ok

theorem gkept12_ok : SpecOK Try.prog 17 (genSpec [pSl] gkept12F) := by
  refine genSpec_ok (run_ok (l := gkept12Cs) gkept12Cs_ok mixed noNG) fun l R hF => ?_
  unfold gkept12F at hF
  split at hF
  · rename_i r_l
    obtain ⟨hr_l, hl, hF⟩ := hF
    generalize deS r_l = l at hr_l hl hF
    subst hr_l
    refine ⟨_, hF, rfl, (kp12H l), ?_⟩
    show run gkept12Cs Try.prog _ [.vsl 0 0 (l.map slE).length] [some ⟨false, (pSl.getD (0, 0)).1, (pSl.getD (0, 0)).2, true, (l.map slE)⟩] _ _
    rw [gkept12_run]
    have hE : (List.map enE (ensS l)).length = (ensS l).length := List.length_map _
    have hE2 : (kp12E l).length = (ensS l).length := List.length_map _
    have hEl : (ensS l).length ≤ l.length := ensS_length l
    simp only [whole_row, deS_map, zLe, true_and, hl]
    refine ⟨⟨rfl, rfl⟩, inR (by omega) (by omega), ⟨rfl, Nat.le_refl _, fun j h1 h2 => by omega⟩, ?_⟩
    rintro p ⟨hp0, hI⟩
    refine ⟨fun hgt => ?_, fun hle => ?_⟩
    · have hp : 1 < p := by have := of_decide_eq_true hgt; omega
      have e1 : ((p : Int) - 1).toNat = p - 1 := by omega
      have e2 : ((p : Int) - 1 - 1).toNat = p - 2 := by omega
      have B1 : 0 ≤ (p : Int) - 1 ∧ (p : Int) - 1 < ((List.map enE (ensS l)).length : Int) := by omega
      have B2 : 0 ≤ (p : Int) - 1 - 1 ∧ (p : Int) - 1 - 1 < ((List.map enE (ensS l)).length : Int) := by omega
      have i2 : inRange .i64 ((p : Int) - 1 - 1) := inR (by omega) (by omega)
      have hc : cmpZ (at' (ensS l) (p - 2)).len (at' (ensS l) (p - 1)).len < 0 ↔ (at' (ensS l) (p - 2)).len < (at' (ensS l) (p - 1)).len := by
        unfold cmpZ
        split
        · omega
        · split <;> omega
      refine ⟨B1, read_rows B1.1 B1.2 (by rw [e1]; exact en_whole _), i2, B2, read_rows B2.1 B2.2 (by rw [e2]; exact en_whole _), fun h => ?_, fun h => ⟨i2, p - 1, ?_, ⟨by omega, fun j h1 h2 => ?_⟩, by omega⟩⟩
      · have h := hc.1 (of_decide_eq_true h)
        cases hk : kpS l with
        | false => rfl
        | true =>
          have := kp_chain.1 hk (p - 2) (by omega)
          rw [show p - 2 + 1 = p - 1 from by omega] at this
          omega
      · unfold kp12St
        rw [show ((p - 1 : Nat) : Int) - 1 = (p : Int) - 1 - 1 from by omega]
        rfl
      · rcases Nat.lt_or_ge (j + 1) p with hj | hj
        · have h : ¬ (at' (ensS l) (p - 2)).len < (at' (ensS l) (p - 1)).len := fun x => of_decide_eq_false h (hc.2 x)
          obtain rfl : j = p - 2 := by omega
          rw [show p - 2 + 1 = p - 1 from by omega]
          omega
        · exact hI j hj h2
    · have hp : p ≤ 1 := by have := of_decide_eq_false hle; omega
      rw [kp_chain.2 fun j hj => hI j (by omega) hj]
  · exact hF.elim


noncomputable def ggap12Cs : List (FuncId × Sx.Spec) := [(17, genSpec [pSl] gkept12F)]

theorem ggap12_run (l : List Sl) (n : Int) (r : AV) : run ggap12Cs Try.prog 15 [.vsl 0 0 (l.map slE).length, .int .i64 n] [some ⟨false, (pSl.getD (0, 0)).1, (pSl.getD (0, 0)).2, true, (l.map slE)⟩] (gp12H l n) (yields (.v r)) =
    ((0 : Nat) + List.length (List.map slE l) ≤ List.length (List.map slE l) ∧ List.take (List.length (List.map slE l)) (List.drop 0 (List.map slE l)) = List.map slE (deS (List.take (List.length (List.map slE l)) (List.drop 0 (List.map slE l)))) ∧ List.length (deS (List.take (List.length (List.map slE l)) (List.drop 0 (List.map slE l)))) ≤ (1000000 : Nat) ∧ ((!kpS (deS (List.take (List.length (List.map slE l)) (List.drop 0 (List.map slE l))))) = true → AV.tuple [AV.int IntKind.i64 0, AV.int IntKind.i64 0] = r) ∧ ((!kpS (deS (List.take (List.length (List.map slE l)) (List.drop 0 (List.map slE l))))) = false → (St.mk [.any, AV.int IntKind.i64 n, .any, .any, .any, .any, AV.int IntKind.i64 0, AV.int IntKind.i64 (↑(List.length (List.map slE l)) : Int), .any, .any, .any, .any, .any, .any, .any, AV.vsl 0 0 (List.length (List.map slE l)), AV.int IntKind.i64 (↑(List.length (List.map slE l)) : Int), AV.int IntKind.i64 0, .any, .any, .any, .any, .any, .any, .any, .any, .any, .any, .any, .any, .any, .any, .any, .any, .any, .any, .any, .any, .any, .any, .any, .any, .any, .any, .any, .any] [some (Blk.mk false (58 : TypeId) 7 true (List.map slE l))] = gp12St l n 0 ∧ gp12I l n 0) ∧ ∀ (p : Nat), gp12I l n p → (Decidable.decide ((↑p : Int) < (↑(List.length (List.map slE l)) : Int)) = true → ((0 : Int) ≤ (↑p : Int) ∧ (↑p : Int) < (↑(List.length (List.map slE l)) : Int)) ∧ Blk.read Proofs.Try.prog (Blk.mk false (58 : TypeId) 7 true (List.map slE l)) 58 ((0 : Nat) + Int.toNat (↑p : Int)) 0 = some (AV.agg [AV.bool (at' l p).1, AV.w64 (Sl.e (at' l p)).1, AV.w64 (Sl.e (at' l p)).2, AV.w64 (Sl.e (at' l p)).3, AV.w64 (Sl.e (at' l p)).4, AV.int IntKind.i64 (Sl.e (at' l p)).5, AV.int IntKind.i64 (Sl.e (at' l p)).6]) ∧ ((at' l p).1 = true → (Decidable.decide ((Sl.e (at' l p)).5 > n) = true → inRange IntKind.i64 ((↑p : Int) + (1 : Int)) ∧ (at' l p).1 = true ∧ Decidable.decide ((Sl.e (at' l p)).5 < n) = false ∧ inRange IntKind.i64 ((↑p : Int) + (1 : Int)) ∧ ∃ (p' : Nat), St.mk [.any, AV.int IntKind.i64 n, .any, .any, .any, .any, AV.int IntKind.i64 ((↑p : Int) + (1 : Int)), AV.int IntKind.i64 (↑(List.length (List.map slE l)) : Int), .any, .any, .any, .any, .any, .any, .any, AV.vsl 0 0 (List.length (List.map slE l)), AV.int IntKind.i64 (↑(List.length (List.map slE l)) : Int), AV.int IntKind.i64 ((↑p : Int) + (1 : Int)), .any, .any, .any, .any, .any, .any, .any, .any, .any, .any, .any, .any, .any, .any, .any, .any, .any, .any, .any, .any, .any, .any, .any, .any, .any, .any, .any, .any] [some (Blk.mk false (58 : TypeId) 7 true (List.map slE l))] = gp12St l n p' ∧ gp12I l n p' ∧ List.length l + (1 : Nat) - p' < List.length l + (1 : Nat) - p) ∧ (Decidable.decide ((Sl.e (at' l p)).5 > n) = false → (at' l p).1 = true ∧ (Decidable.decide ((Sl.e (at' l p)).5 < n) = true → AV.tuple [AV.int IntKind.i64 (↑(gpF l n p) : Int), AV.int IntKind.i64 (↑p : Int)] = r) ∧ (Decidable.decide ((Sl.e (at' l p)).5 < n) = false → inRange IntKind.i64 ((↑p : Int) + (1 : Int)) ∧ ∃ (p' : Nat), St.mk [.any, AV.int IntKind.i64 n, .any, .any, .any, .any, AV.int IntKind.i64 (↑(gpF l n p) : Int), AV.int IntKind.i64 (↑(List.length (List.map slE l)) : Int), .any, .any, .any, .any, .any, .any, .any, AV.vsl 0 0 (List.length (List.map slE l)), AV.int IntKind.i64 (↑(List.length (List.map slE l)) : Int), AV.int IntKind.i64 ((↑p : Int) + (1 : Int)), .any, .any, .any, .any, .any, .any, .any, .any, .any, .any, .any, .any, .any, .any, .any, .any, .any, .any, .any, .any, .any, .any, .any, .any, .any, .any, .any, .any] [some (Blk.mk false (58 : TypeId) 7 true (List.map slE l))] = gp12St l n p' ∧ gp12I l n p' ∧ List.length l + (1 : Nat) - p' < List.length l + (1 : Nat) - p))) ∧ ((at' l p).1 = false → (at' l p).1 = false ∧ inRange IntKind.i64 ((↑p : Int) + (1 : Int)) ∧ ∃ (p' : Nat), St.mk [.any, AV.int IntKind.i64 n, .any, .any, .any, .any, AV.int IntKind.i64 (↑(gpF l n p) : Int), AV.int IntKind.i64 (↑(List.length (List.map slE l)) : Int), .any, .any, .any, .any, .any, .any, .any, AV.vsl 0 0 (List.length (List.map slE l)), AV.int IntKind.i64 (↑(List.length (List.map slE l)) : Int), AV.int IntKind.i64 ((↑p : Int) + (1 : Int)), .any, .any, .any, .any, .any, .any, .any, .any, .any, .any, .any, .any, .any, .any, .any, .any, .any, .any, .any, .any, .any, .any, .any, .any, .any, .any, .any, .any] [some (Blk.mk false (58 : TypeId) 7 true (List.map slE l))] = gp12St l n p' ∧ gp12I l n p' ∧ List.length l + (1 : Nat) - p' < List.length l + (1 : Nat) - p)) ∧ (Decidable.decide ((↑p : Int) < (↑(List.length (List.map slE l)) : Int)) = false → AV.tuple [AV.int IntKind.i64 (↑(gpF l n p) : Int), AV.int IntKind.i64 (↑(List.length (List.map slE l)) : Int)] = r))) := by kernel_rfl

theorem ggap12Cs_ok : ∀ e ∈ ggap12Cs, SpecOK Try.prog e.1 e.2 := by
  intro e he
  simp only [ggap12Cs, List.mem_cons, List.not_mem_nil, or_false] at he
  rcases he with rfl
  · exact gkept12_ok

theorem ggap12_ok : SpecOK Try.prog 15 (genSpec [pSl, none] ggap12F) := by
  refine genSpec_ok (run_ok (l := ggap12Cs) ggap12Cs_ok mixed noNG) fun l R hF => ?_
  unfold ggap12F at hF
  split at hF
  · rename_i r_l n
    obtain ⟨hr_l, hl, hF⟩ := hF
    generalize deS r_l = l at hr_l hl hF
    subst hr_l
    refine ⟨_, hF, rfl, (gp12H l n), ?_⟩
    show run ggap12Cs Try.prog _ [.vsl 0 0 (l.map slE).length, .int .i64 n] [some ⟨false, (pSl.getD (0, 0)).1, (pSl.getD (0, 0)).2, true, (l.map slE)⟩] _ _
    rw [ggap12_run]
    have hlm : (l.map slE).length = l.length := List.length_map _
    simp only [whole_row, deS_map, zLe, true_and, hl]
    refine ⟨fun h => ?_, fun h => ?_⟩
    · rw [notTT h]; rfl
    have hk := notF h
    have hK := kpS_iff.1 hk
    refine ⟨⟨rfl, Nat.zero_le _, fun j hj => absurd hj (Nat.not_lt_zero _)⟩, ?_⟩
    rintro p ⟨hp0, hI⟩
    have i0 : inRange .i64 ((p : Int) + 1) := inR (by omega) (by omega)
    refine ⟨fun hlt => ?_, fun hge => ?_⟩
    · have hp : p < l.length := by have := of_decide_eq_true hlt; omega
      have B : 0 ≤ (p : Int) ∧ (p : Int) < ((l.map slE).length : Int) := by omega
      have g1 : gpF l n (p + 1) = if loS n (at' l p) then p + 1 else gpF l n p := rfl
      have nx : shS n (at' l p) = false → gp12I l n (p + 1) := fun h => ⟨hp, fun j hj => by
        rcases Nat.lt_or_ge j p with h1 | h1
        · exact hI j h1
        · obtain rfl : j = p := by omega
          exact h⟩
      refine ⟨B, read_rows B.1 B.2 (sl_whole _), fun ho => ⟨fun hgt => ⟨i0, ho, ?_, i0, p + 1, ?_, nx ?_, by omega⟩, fun hng => ⟨ho, fun hsh => ?_, fun hns => ⟨i0, p + 1, ?_, nx ?_, by omega⟩⟩⟩, fun ho => ⟨ho, i0, p + 1, ?_, nx (sh_none ho), by omega⟩⟩
      · have := of_decide_eq_true hgt
        exact decide_eq_false (by omega)
      · have : loS n (at' l p) = true := by unfold loS; rw [show (at' l p).ok = true from ho]; exact hgt
        rw [if_pos this] at g1
        unfold gp12St
        rw [g1]; rfl
      · have := of_decide_eq_true hgt
        unfold shS
        rw [decide_eq_false (by omega), Bool.and_false]
      · have hs : shS n (at' l p) = true := by unfold shS; rw [show (at' l p).ok = true from ho]; exact hsh
        rw [hk, if_pos rfl, if_pos rfl, gt_at hs hI, gf_at (by omega) (lo_behind hK hs)]
      · have : loS n (at' l p) = false := by unfold loS; rw [show (at' l p).ok = true from ho]; exact hng
        rw [if_neg (by rw [this]; simp)] at g1
        unfold gp12St
        rw [g1]; rfl
      · unfold shS
        rw [show (at' l p).ok = true from ho]; exact hns
      · rw [if_neg (by rw [lo_none ho]; simp)] at g1
        unfold gp12St
        rw [g1]; rfl
    · have hp : p = l.length := by have := of_decide_eq_false hge; omega
      subst hp
      rw [hk, if_pos rfl, if_pos rfl, gt_end hI, hlm]
      rfl
  · exact hF.elim


theorem gff12_run (l : List Sl) (r : AV) : run [] Try.prog 44 [.vsl 0 0 (l.map slE).length] [some ⟨false, (pSl.getD (0, 0)).1, (pSl.getD (0, 0)).2, true, (l.map slE)⟩] (ff12H l) (yields (.v r)) =
    ((St.mk [AV.vsl 0 0 (List.length (List.map slE l)), AV.func (Fn.func 55) [] [], .any, .any, .any, .any, .any, AV.int IntKind.i64 (↑(List.length (List.map slE l)) : Int), AV.int IntKind.i64 0, .any, .any, .any, .any, .any, .any, .any, .any, .any, .any] [some (Blk.mk false (58 : TypeId) 7 true (List.map slE l))] = ff12St l 0 ∧ ff12I l 0) ∧ ∀ (p : Nat), ff12I l p → (Decidable.decide ((↑p : Int) < (↑(List.length (List.map slE l)) : Int)) = true → ((0 : Int) ≤ (↑p : Int) ∧ (↑p : Int) < (↑(List.length (List.map slE l)) : Int)) ∧ Blk.read Proofs.Try.prog (Blk.mk false (58 : TypeId) 7 true (List.map slE l)) 58 ((0 : Nat) + Int.toNat (↑p : Int)) 0 = some (AV.agg [AV.bool (at' l p).1, AV.w64 (Sl.e (at' l p)).1, AV.w64 (Sl.e (at' l p)).2, AV.w64 (Sl.e (at' l p)).3, AV.w64 (Sl.e (at' l p)).4, AV.int IntKind.i64 (Sl.e (at' l p)).5, AV.int IntKind.i64 (Sl.e (at' l p)).6]) ∧ ((!(at' l p).1) = true → AV.int IntKind.i64 (↑p : Int) = r) ∧ ((!(at' l p).1) = false → inRange IntKind.i64 ((↑p : Int) + (1 : Int)) ∧ ∃ (p' : Nat), St.mk [AV.vsl 0 0 (List.length (List.map slE l)), AV.func (Fn.func (55 : FuncId)) [] [], .any, .any, .any, .any, .any, AV.int IntKind.i64 (↑(List.length (List.map slE l)) : Int), AV.int IntKind.i64 ((↑p : Int) + (1 : Int)), .any, .any, .any, .any, .any, .any, .any, .any, .any, .any] [some (Blk.mk false (58 : TypeId) 7 true (List.map slE l))] = ff12St l p' ∧ ff12I l p' ∧ List.length l + (1 : Nat) - p' < List.length l + (1 : Nat) - p)) ∧ (Decidable.decide ((↑p : Int) < (↑(List.length (List.map slE l)) : Int)) = false → AV.int IntKind.i64 (-1) = r)) := by kernel_rfl

theorem gff12_ok : SpecOK Try.prog 44 (genSpec [pSl] gff12F) := by
  refine genSpec_ok none_ok fun l R hF => ?_
  unfold gff12F at hF
  split at hF
  · rename_i r_l
    obtain ⟨hr_l, hl, hF⟩ := hF
    generalize deS r_l = l at hr_l hl hF
    subst hr_l
    refine ⟨_, hF, rfl, (ff12H l), ?_⟩
    show run [] Try.prog _ [.vsl 0 0 (l.map slE).length] [some ⟨false, (pSl.getD (0, 0)).1, (pSl.getD (0, 0)).2, true, (l.map slE)⟩] _ _
    rw [gff12_run]
    have hlm : (l.map slE).length = l.length := List.length_map _
    refine ⟨⟨rfl, Nat.zero_le _, fun j hj => absurd hj (Nat.not_lt_zero _)⟩, ?_⟩
    rintro p ⟨hp0, hI⟩
    refine ⟨fun hlt => ?_, fun hge => ?_⟩
    · have hp : p < l.length := by have := of_decide_eq_true hlt; omega
      have B : 0 ≤ (p : Int) ∧ (p : Int) < ((l.map slE).length : Int) := by omega
      refine ⟨B, read_rows B.1 B.2 (sl_whole _), fun h => ?_, fun h => ⟨inR (by omega) (by omega), p + 1, rfl, ⟨hp, fun j hj => ?_⟩, by omega⟩⟩
      · have h := notTT h
        rcases geS_spec l l.length 0 with ⟨_, a⟩ | ⟨i, e, _, _, c, d⟩
        · rw [a p (Nat.zero_le _) (by omega)] at h; cases h
        · rcases Nat.lt_trichotomy i p with hi | rfl | hi
          · rw [hI i hi] at c; cases c
          · rw [e]
          · rw [d p (Nat.zero_le _) hi] at h; cases h
      · rcases Nat.lt_or_ge j p with h1 | h1
        · exact hI j h1
        · obtain rfl : j = p := by omega
          exact notF h
    · have hp : p = l.length := by have := of_decide_eq_false hge; omega
      subst hp
      rcases geS_spec l l.length 0 with ⟨e, _⟩ | ⟨i, _, _, b, c, _⟩
      · rw [e]
      · rw [hI i (by omega)] at c; cases c
  · exact hF.elim


theorem glf12_run (l : List Sl) (r : AV) : run [] Try.prog 46 [.vsl 0 0 (l.map slE).length] [some ⟨false, (pSl.getD (0, 0)).1, (pSl.getD (0, 0)).2, true, (l.map slE)⟩] (lf12H l) (yields (.v r)) =
    (∀ (l_1 : Nat), inRange IntKind.i64 ((↑(List.length (List.map slE l)) : Int) - (1 : Int)) ∧ (St.mk [AV.func (Fn.yield l_1) [] [], AV.ptr ((0 : Nat) + (1 : Nat) + (1 : Nat)) 0 0 true, .any, AV.int IntKind.i64 ((↑(List.length (List.map slE l)) : Int) - (1 : Int)), .any, .any, .any, .any, .any, .any, .any, .any, .any, .any, .any, .any, .any, .any, .any] [some (Blk.mk false (58 : TypeId) 7 true (List.map slE l)), some (Blk.mk true 3 1 true [AV.lit (Value.int IntKind.i64 0)]), some (Blk.mk true (nat_lit 22) 1 false [AV.vsl 0 0 (List.length (List.map slE l))])] = lf12St l l_1 (List.length l) ∧ lf12I l (List.length l)) ∧ ∀ (p : Nat), lf12I l p → (Decidable.decide ((↑p : Int) - (1 : Int) ≥ (0 : Int)) = true → ((0 : Int) ≤ (↑p : Int) - (1 : Int) ∧ (↑p : Int) - (1 : Int) < (↑(List.length (List.map slE l)) : Int)) ∧ Blk.read Proofs.Try.prog (Blk.mk false (58 : TypeId) 7 true (List.map slE l)) 58 ((0 : Nat) + Int.toNat ((↑p : Int) - (1 : Int))) 0 = some (AV.agg [AV.bool (at' l (p - (1 : Nat))).1, AV.w64 (Sl.e (at' l (p - (1 : Nat)))).1, AV.w64 (Sl.e (at' l (p - (1 : Nat)))).2, AV.w64 (Sl.e (at' l (p - (1 : Nat)))).3, AV.w64 (Sl.e (at' l (p - (1 : Nat)))).4, AV.int IntKind.i64 (Sl.e (at' l (p - (1 : Nat)))).5, AV.int IntKind.i64 (Sl.e (at' l (p - (1 : Nat)))).6]) ∧ l_1 = l_1 ∧ ((!(at' l (p - (1 : Nat))).1) = true → AV.int IntKind.i64 ((↑p : Int) - (1 : Int)) = r) ∧ ((!(at' l (p - (1 : Nat))).1) = false → inRange IntKind.i64 ((↑p : Int) - (1 : Int) - (1 : Int)) ∧ ∃ (p' : Nat), St.mk [AV.func (Fn.yield l_1) [] [], AV.ptr ((0 : Nat) + (1 : Nat) + (1 : Nat)) 0 0 true, .any, AV.int IntKind.i64 ((↑p : Int) - (1 : Int) - (1 : Int)), .any, .any, .any, .any, .any, .any, .any, .any, .any, .any, .any, .any, .any, .any, .any] [some (Blk.mk false (58 : TypeId) 7 true (List.map slE l)), some (Blk.mk true (3 : TypeId) 1 true [AV.lit (Value.int IntKind.i64 0)]), some (Blk.mk true (nat_lit 22) 1 false [AV.vsl 0 0 (List.length (List.map slE l))])] = lf12St l l_1 p' ∧ lf12I l p' ∧ p' < p)) ∧ (Decidable.decide ((↑p : Int) - (1 : Int) ≥ (0 : Int)) = false → AV.int IntKind.i64 (-1) = r)) := by kernel_rfl

theorem glf12_ok : SpecOK Try.prog 46 (genSpec [pSl] glf12F) := by
  refine genSpec_ok none_ok fun l R hF => ?_
  unfold glf12F at hF
  split at hF
  · rename_i r_l
    obtain ⟨hr_l, hl, hF⟩ := hF
    generalize deS r_l = l at hr_l hl hF
    subst hr_l
    refine ⟨_, hF, rfl, (lf12H l), ?_⟩
    show run [] Try.prog _ [.vsl 0 0 (l.map slE).length] [some ⟨false, (pSl.getD (0, 0)).1, (pSl.getD (0, 0)).2, true, (l.map slE)⟩] _ _
    rw [glf12_run]
    have hlm : (l.map slE).length = l.length := List.length_map _
    intro y
    refine ⟨inR (by omega) (by omega), ⟨by unfold lf12St; rw [hlm]; rfl, Nat.le_refl _, fun j h1 h2 => by omega⟩, ?_⟩
    rintro p ⟨hp0, hI⟩
    refine ⟨fun hge => ?_, fun hlt => ?_⟩
    · have hp : 0 < p := by have := of_decide_eq_true hge; omega
      have e1 : ((p : Int) - 1).toNat = p - 1 := by omega
      have B : 0 ≤ (p : Int) - 1 ∧ (p : Int) - 1 < ((l.map slE).length : Int) := by omega
      refine ⟨B, read_rows B.1 B.2 (by rw [e1]; exact sl_whole _), rfl, fun h => ?_, fun h => ⟨inR (by omega) (by omega), p - 1, ?_, ⟨by omega, fun j h1 h2 => ?_⟩, by omega⟩⟩
      · have h := notTT h
        rcases upS_spec l l.length with ⟨_, a⟩ | ⟨i, e, b, c, d⟩
        · rw [a (p - 1) (by omega)] at h; cases h
        · rcases Nat.lt_trichotomy i (p - 1) with hi | rfl | hi
          · rw [d (p - 1) hi (by omega)] at h; cases h
          · rw [e, show ((p - 1 : Nat) : Int) = (p : Int) - 1 from by omega]
          · rw [hI i (by omega) b] at c; cases c
      · unfold lf12St
        rw [show ((p - 1 : Nat) : Int) - 1 = (p : Int) - 1 - 1 from by omega]
        rfl
      · rcases Nat.lt_or_ge j p with h3 | h3
        · obtain rfl : j = p - 1 := by omega
          exact notF h
        · exact hI j h3 h2
    · have hp : p = 0 := by have := of_decide_eq_false hlt; omega
      subst hp
      rcases upS_spec l l.length with ⟨e, _⟩ | ⟨i, _, b, c, _⟩
      · rw [e]
      · rw [hI i (Nat.zero_le _) b] at c; cases c
  · exact hF.elim


theorem gway12_run (l : List Sl) (t e s : Int) (es : List AV) : run [] Try.prog 45 [.vsl 0 0 (l.map slE).length, .int .i64 t, .int .i64 e, .int .i64 s] [some ⟨false, (pSl.getD (0, 0)).1, (pSl.getD (0, 0)).2, true, (l.map slE)⟩] (wy12H l t e s) (yields (.vrow 3 1 es)) =
    (inRange IntKind.i64 (t + s) ∧ (St.mk [AV.vsl 0 0 (List.length (List.map slE l)), .any, AV.int IntKind.i64 e, AV.int IntKind.i64 s, .any, .any, .any, .any, .any, AV.vsl ((0 : Nat) + (1 : Nat)) 0 1, AV.int IntKind.i64 (t + s), .any, .any, .any, .any, .any, .any, .any, .any, .any, .any, .any, .any, .any, .any, .any, .any, .any, .any, .any, .any, .any, .any, .any, .any, .any, .any, .any, .any, .any, .any, .any, .any, .any, .any] [some (Blk.mk false (58 : TypeId) 7 true (List.map slE l)), some (Blk.mk true 3 1 (true && true) [AV.int IntKind.i64 t])] = wy12St l t e s ([t], (0 : Nat)) ∧ wy12I l t s (wyN t e) ([t], (0 : Nat))) ∧ ∀ (p : List Int × Nat), wy12I l t s (wyN t e) p → ((t + s * ((↑p.2 : Int) + (1 : Int)) != e) = true → ((0 : Int) ≤ t + s * ((↑p.2 : Int) + (1 : Int)) ∧ t + s * ((↑p.2 : Int) + (1 : Int)) < (↑(List.length (List.map slE l)) : Int)) ∧ Blk.read Proofs.Try.prog (Blk.mk false (58 : TypeId) 7 true (List.map slE l)) 3 ((0 : Nat) + Int.toNat (t + s * ((↑p.2 : Int) + (1 : Int)))) ((0 : Nat) + (1 : Nat) + (4 : Nat)) = some (AV.int IntKind.i64 (wyF l t s (p.2 + (1 : Nat)))) ∧ inRange IntKind.i64 (t + s * ((↑p.2 : Int) + (1 : Int)) + s) ∧ ((0 : Int) ≤ t + s * ((↑p.2 : Int) + (1 : Int)) + s ∧ t + s * ((↑p.2 : Int) + (1 : Int)) + s < (↑(List.length (List.map slE l)) : Int)) ∧ Blk.read Proofs.Try.prog (Blk.mk false (58 : TypeId) 7 true (List.map slE l)) 3 ((0 : Nat) + Int.toNat (t + s * ((↑p.2 : Int) + (1 : Int)) + s)) ((0 : Nat) + (1 : Nat) + (4 : Nat)) = some (AV.int IntKind.i64 (wyF l t s (p.2 + (2 : Nat)))) ∧ ((wyF l t s (p.2 + (1 : Nat)) != wyF l t s (p.2 + (2 : Nat))) = true → ((List.length p.1 + (1 : Nat)) * (8 : Nat) ≤ (140737488355328 : Nat) ∧ List.length p.1 + (1 : Nat) ≤ (9223372036854775807 : Nat) ∧ (0 : Nat) + (1 : Nat) ≤ List.length [AV.int IntKind.i64 (t + s * ((↑p.2 : Int) + (1 : Int)))] ∧ List.length p.1 ≤ List.length (List.map wiA (Prod.fst p))) ∧ List.take (List.length p.1) (List.map wiA (Prod.fst p)) ++ [AV.int IntKind.i64 (t + s * ((↑p.2 : Int) + (1 : Int)))] = wiR (p.1 ++ [wyP t s (p.2 + (1 : Nat))]) ∧ inRange IntKind.i64 (t + s * ((↑p.2 : Int) + (1 : Int)) + s) ∧ ∃ (p' : List Int × Nat), St.mk [AV.vsl 0 0 (List.length (List.map slE l)), .any, AV.int IntKind.i64 e, AV.int IntKind.i64 s, .any, .any, .any, .any, .any, AV.vsl ((0 : Nat) + (1 : Nat)) 0 (List.length p.1 + (1 : Nat)), AV.int IntKind.i64 (t + s * ((↑p.2 : Int) + (1 : Int)) + s), .any, .any, .any, .any, .any, .any, .any, .any, .any, .any, .any, .any, .any, .any, .any, .any, .any, .any, .any, .any, .any, .any, .any, .any, .any, .any, .any, .any, .any, .any, .any, .any, .any, .any] [some (Blk.mk false (58 : TypeId) 7 true (List.map slE l)), some (Blk.mk true 3 1 true (wiR (p.1 ++ [wyP t s (p.2 + (1 : Nat))])))] = wy12St l t e s p' ∧ wy12I l t s (wyN t e) p' ∧ wyN t e - p'.2 < wyN t e - p.2) ∧ ((wyF l t s (p.2 + (1 : Nat)) != wyF l t s (p.2 + (2 : Nat))) = false → inRange IntKind.i64 (t + s * ((↑p.2 : Int) + (1 : Int)) + s) ∧ ∃ (p' : List Int × Nat), St.mk [AV.vsl 0 0 (List.length (List.map slE l)), .any, AV.int IntKind.i64 e, AV.int IntKind.i64 s, .any, .any, .any, .any, .any, AV.vsl ((0 : Nat) + (1 : Nat)) 0 (List.length p.1), AV.int IntKind.i64 (t + s * ((↑p.2 : Int) + (1 : Int)) + s), .any, .any, .any, .any, .any, .any, .any, .any, .any, .any, .any, .any, .any, .any, .any, .any, .any, .any, .any, .any, .any, .any, .any, .any, .any, .any, .any, .any, .any, .any, .any, .any, .any, .any] [some (Blk.mk false (58 : TypeId) 7 true (List.map slE l)), some (Blk.mk true (3 : TypeId) 1 true (wiR p.1))] = wy12St l t e s p' ∧ wy12I l t s (wyN t e) p' ∧ wyN t e - p'.2 < wyN t e - p.2)) ∧ ((t + s * ((↑p.2 : Int) + (1 : Int)) != e) = false → ((List.length p.1 + (1 : Nat)) * (8 : Nat) ≤ (140737488355328 : Nat) ∧ List.length p.1 + (1 : Nat) ≤ (9223372036854775807 : Nat) ∧ (0 : Nat) + (1 : Nat) ≤ List.length [AV.int IntKind.i64 e] ∧ List.length p.1 ≤ List.length (List.map wiA (Prod.fst p))) ∧ List.take (List.length p.1) (List.map wiA (Prod.fst p)) ++ [AV.int IntKind.i64 e] = wiR (wyL l t s (wyN t e)) ∧ List.length p.1 + (1 : Nat) = List.length es ∧ some (Blk.mk true 3 1 true (wiR (wyL l t s (wyN t e)))) = some (Blk.mk true (3 : TypeId) 1 true es))) := by kernel_rfl

theorem gway12_ok : SpecOK Try.prog 45 (genSpec [pSl, none, none, none] gway12F) := by
  refine genSpec_ok none_ok fun l R hF => ?_
  unfold gway12F at hF
  split at hF
  · rename_i r_l t e s
    obtain ⟨hr_l, hl, hF⟩ := hF
    generalize deS r_l = l at hr_l hl hF
    subst hr_l
    obtain ⟨he, hF⟩ := hF
    refine ⟨_, hF, trivial, (wy12H l t e s), ?_⟩
    show run [] Try.prog _ [.vsl 0 0 (l.map slE).length, .int .i64 t, .int .i64 e, .int .i64 s] [some ⟨false, (pSl.getD (0, 0)).1, (pSl.getD (0, 0)).2, true, (l.map slE)⟩] _ _
    rw [gway12_run]
    have hlm : (l.map slE).length = l.length := List.length_map _
    obtain ⟨⟨ht0, ht1, he0, he1⟩, hs⟩ := he
    have hN : e = t + s * ((wyN t e : Nat) + 1 : Int) ∧ wyN t e + 1 < l.length + 1 := by
      unfold wyN
      rcases hs with ⟨rfl, h⟩ | ⟨rfl, h⟩ <;> omega
    generalize wyN t e = N at hN
    obtain ⟨hE, hNl⟩ := hN
    have hB : ∀ d : Nat, d ≤ N + 1 → 0 ≤ t + s * (d : Int) ∧ t + s * (d : Int) < ((l.map slE).length : Int) := fun d hd => by
      rcases hs with ⟨rfl, h⟩ | ⟨rfl, h⟩ <;> omega
    have hS : ∀ d : Int, t + s * d + s = t + s * (d + 1) := fun d => by rw [Int.mul_add, Int.mul_one]; omega
    have hR : ∀ d : Nat, d ≤ N + 1 → inRange .i64 (t + s * (d : Int)) := fun d hd => by have := hB d hd; exact inR (by omega) (by omega)
    have hL : ∀ q : List Int × Nat, wy12I l t s N q → q.1.length ≤ N + 2 := fun q hq => by
      have h1 := congrArg List.length hq.2
      have h2 := wgS_length (wyF l t s) N 0
      unfold wyL wyS at h1
      rw [List.length_append, List.length_cons, List.length_map, List.length_map] at h1
      omega
    have st0 : ∀ d, wyS l t s d 0 = [wyP t s (d + 1)] := fun d => rfl
    have st1 : ∀ d n, wyS l t s d (n + 1) = if wyF l t s (d + 1) ≠ wyF l t s (d + 2) then wyP t s (d + 1) :: wyS l t s (d + 1) n else wyS l t s (d + 1) n := fun d n => by
      unfold wyS
      rw [wgS]
      split <;> rfl
    refine ⟨by have := hR 1 (by omega); rwa [show ((1 : Nat) : Int) = 1 from rfl, Int.mul_one] at this, ⟨?_, Nat.zero_le _, rfl⟩, ?_⟩
    · unfold wy12St
      rw [show s * (((([t], 0) : List Int × Nat).2 : Int) + 1) = s from by show s * ((0 : Int) + 1) = s; rw [Int.zero_add, Int.mul_one]]
      rfl
    rintro ⟨q, d⟩ hI
    have hq := hL _ hI
    obtain ⟨hd0, hI⟩ := hI
    dsimp only at hd0 hI hq ⊢
    have e1 : ((d + 1 : Nat) : Int) = (d : Int) + 1 := rfl
    have e2 : ((d + 2 : Nat) : Int) = (d : Int) + 1 + 1 := by omega
    refine ⟨fun hne => ?_, fun he => ?_⟩
    · have hd : d < N := Nat.lt_of_le_of_ne hd0 fun h => by
        subst h
        rw [← hE] at hne
        simp at hne
      have B1 := hB (d + 1) (by omega)
      have B2 := hB (d + 2) (by omega)
      have R2 := hR (d + 2) (by omega)
      rw [e1] at B1
      have eR2 : t + s * ((d : Int) + 1) + s = t + s * ((d + 2 : Nat) : Int) := by rw [hS, e2]
      rw [← eR2] at B2 R2
      obtain ⟨n, hn⟩ : ∃ n, N - d = n + 1 := ⟨N - d - 1, by omega⟩
      have hn2 : N - (d + 1) = n := by omega
      rw [hn, st1] at hI
      have e10 : t + s * ((d : Int) + 1) + s = t + s * (((d + 1 : Nat) : Int) + 1) := by rw [hS, e1]
      refine ⟨B1, read_rows B1.1 B1.2 (by unfold wyF; exact sl_len _), R2, B2, read_rows B2.1 B2.2 (by unfold wyF; rw [eR2]; exact sl_len _), fun h => ⟨⟨by omega, by omega, Nat.le_refl _, by rw [List.length_map]; exact Nat.le_refl _⟩, ?_, R2, (q ++ [wyP t s (d + 1)], d + 1), ?_, ⟨hd, ?_⟩, by show N - (d + 1) < N - d; omega⟩, fun h => ⟨R2, (q, d + 1), ?_, ⟨hd, ?_⟩, by show N - (d + 1) < N - d; omega⟩⟩
      · rw [List.take_of_length_le (by rw [List.length_map]; exact Nat.le_refl _)]
        show _ = List.map wiA _
        rw [List.map_append]; rfl
      · unfold wy12St
        dsimp only
        rw [List.length_append, ← e10]; rfl
      · rw [if_pos (by simpa using h)] at hI
        show (q ++ [_]) ++ wyS l t s (d + 1) (N - (d + 1)) = _
        rw [← hI, hn2, List.append_assoc]; rfl
      · unfold wy12St
        dsimp only
        rw [← e10]; rfl
      · rw [if_neg (by simpa using h)] at hI
        show q ++ wyS l t s (d + 1) (N - (d + 1)) = _
        rw [← hI, hn2]
    · have hd : d = N := Nat.le_antisymm hd0 (Nat.le_of_not_lt fun hlt => by
        have he : t + s * ((d : Int) + 1) = e := by simpa using he
        rw [hE] at he
        rcases hs with ⟨rfl, h⟩ | ⟨rfl, h⟩ <;> omega)
      subst hd
      rw [Nat.sub_self, st0] at hI
      have hp : wyP t s (d + 1) = e := by unfold wyP; rw [e1]; exact hE.symm
      rw [hp] at hI
      refine ⟨⟨by omega, by omega, Nat.le_refl _, by rw [List.length_map]; exact Nat.le_refl _⟩, ?_, ?_, rfl⟩
      · rw [List.take_of_length_le (by rw [List.length_map]; exact Nat.le_refl _), ← hI]
        show _ = List.map wiA _
        rw [List.map_append]; rfl
      · show _ = (List.map wiA _).length
        rw [List.length_map, ← hI, List.length_append]; rfl
  · exact hF.elim


end Go.Proofs.Ytlmhnfkbingmdaa.L1
end

section
/-
  Layer 12: contracts of the program's shortest and Insert.
-/
namespace Go.Proofs.Ytlmhnfkbingmdaa.L1
open Go.Sx Go.Sx.M

def sh12T (b a : Bool) : List Hint := match b, a with
  | false, _ => [.br true]
  | true, false => [.fork [] [.br false]]
  | true, true => [.fork [] [.fork [] [.fork [] []]]]
def sh12A (l : List Sl) (n : Int) (b : Bool) : List Hint := [.ix (gfS l n), .fork (.nw :: .nm (wiR (waL l n)) :: sh12T b true) (sh12T b false)]
def sh12H (l : List Sl) (n : Int) : List Hint := [.ix (gtS l n), .ix (gfS l n), .fork [.nw] [.ix (gtS l n), .fork (.nw :: .nm (wiR (wbL l n)) :: sh12A l n true) (sh12A l n false)]]

def pi12St (l : List Sl) (x : En) (W : List Int) (q : List Wr × Nat) : St := ⟨[.vsl 0 0 (l.map slE).length, .any, .any, .ptr 1 0 0 true, .any, .any, .vsl 2 0 (wiR W).length, .int .i64 (((wiR W).length : Int) - 1), .vsl 3 0 q.1.length, .any, .any, .any, .any, .any, .any, .any, .any, .any, .any, .any, .any, .any, .any, .any, .any, .any, .any, .any, .any, .any, .any, .any, .vsl 2 0 (W.length - 1), .int .i64 ((W.length - 1 : Nat) : Int), .int .i64 q.2, .any, .any, .any, .any, .any, .any, .any, .any, .any, .any, .any, .any, .any, .any, .any, .any, .any, .any, .any, .any, .any, .any, .any, .any, .any, .any, .any, .any], [ps12R l, some ⟨true, 29, 6, true, [enE x]⟩, some ⟨true, 3, 1, true, wiR W⟩, some ⟨true, 60, 8, true, ppR q.1⟩]⟩
def pi12I (l : List Sl) (x : En) (W : List Int) (q : List Wr × Nat) : Prop := q.2 + 1 ≤ W.length ∧ q.1 ++ wwL l x (W.drop q.2) = wwL l x W
def pi12M0 : Modes := ⟨[1, 0, 0, 1, 0, 0, 1, 1, 1, 0, 0, 0, 0, 0, 0, 0, 0, 0, 0, 0, 0, 0, 0, 0, 0, 0, 0, 0, 0, 0, 0, 0, 1, 1, 2, 0, 0, 0, 0, 0, 0, 0, 0, 0, 0, 0, 0, 0, 0, 0, 0, 0, 0, 0, 0, 0, 0, 0, 0, 0, 0, 0, 0], [], [], [], [(8, 60, 8)]⟩
def pi12M : Modes := ⟨[1, 0, 0, 1, 0, 0, 1, 1, 1, 0, 0, 0, 0, 0, 0, 0, 0, 0, 0, 0, 0, 0, 0, 0, 0, 0, 0, 0, 0, 0, 0, 0, 1, 1, 1, 0, 0, 0, 0, 0, 0, 0, 0, 0, 0, 0, 0, 0, 0, 0, 0, 0, 0, 0, 0, 0, 0, 0, 0, 0, 0, 0, 0], [], [], [], []⟩
def pi12M' : Modes := ⟨[0, 0, 0, 1, 0, 0, 1, 1, 1, 0, 0, 0, 0, 0, 0, 0, 0, 0, 0, 0, 0, 0, 0, 0, 0, 0, 0, 0, 0, 0, 0, 0, 0, 0, 0, 0, 0, 0, 0, 0, 0, 0, 0, 0, 0, 0, 0, 0, 0, 0, 0, 0, 0, 0, 0, 0, 0, 0, 0, 0, 0, 0, 0], [], [], [], []⟩
def pi12H (l : List Sl) (x : En) (W : List Int) : List Hint := [.fork [] [.fork [] [.fork [] [.nm (wiR W), .nw, .ix (W.length - 1), .linv _ ([], 0) (pi12St l x W) (pi12I l x W) (fun q => W.length - q.2) pi12M0 pi12M pi12M' (fun _ => [.dy, .cell (wiA (wAt W (W.length - 1))), .rows (ppR (wwL l x W))]) fun q =>
  [.fork [.dy, .cell (wiA (wAt W q.2)), .nw, .dy, .cell (wiA (wAt W (q.2 + 1))), .dy, .cell (slE (at' l (wAt W (q.2 + 1)).toNat)), .rows (ppR (q.1 ++ [⟨wAt W q.2, at' l (wAt W (q.2 + 1)).toNat⟩])), .nw] []]]]]]

theorem wi_whole (x : Int) : partOf Try.prog 3 (wiA x).cells 0 = some (wiA x) := by kernel_rfl

theorem wAt_mem {w : List Int} {i : Nat} (h : i < w.length) : wAt w i ∈ w := by
  unfold wAt
  rw [List.getD_eq_getElem?_getD, List.getElem?_eq_getElem h]
  exact List.getElem_mem h

theorem wAt_drop {w : List Int} {p : Nat} (h : p < w.length) : w.drop p = wAt w p :: w.drop (p + 1) := by
  unfold wAt
  rw [List.drop_eq_getElem_cons h, List.getD_eq_getElem?_getD, List.getElem?_eq_getElem h]; rfl

theorem ww_step {l : List Sl} {x : En} {w : List Int} {p : Nat} (h : p + 1 < w.length) : wwL l x (w.drop p) = ⟨wAt w p, at' l (wAt w (p + 1)).toNat⟩ :: wwL l x (w.drop (p + 1)) := by
  rw [wAt_drop (show p < w.length by omega), wAt_drop h, wwL]

theorem ww_last {l : List Sl} {x : En} {w : List Int} {p : Nat} (h : p + 1 = w.length) : wwL l x (w.drop p) = [⟨wAt w p, ⟨true, x⟩⟩] := by
  rw [wAt_drop (show p < w.length by omega), List.drop_of_length_le (by omega), wwL]

theorem wy_mem {l : List Sl} {t s : Int} {n : Nat} {z : Int} (h : z ∈ wyL l t s n) : ∃ d : Nat, d ≤ n + 1 ∧ z = t + s * d := by
  unfold wyL wyS at h
  rcases List.mem_cons.1 h with rfl | h
  · exact ⟨0, Nat.zero_le _, by simp⟩
  · obtain ⟨d, hd, rfl⟩ := List.mem_map.1 h
    have := wgS_mem _ n 0 d hd
    exact ⟨d, by omega, rfl⟩

theorem ws_range {l : List Sl} {n : Int} (hno : ¬ (inG l n < 0 ∧ dnG l n < 0 ∧ upG l n < 0)) : ∀ z ∈ wsL l n, 0 ≤ z ∧ z < l.length := by
  intro z hz
  obtain ⟨t1, _, _⟩ := gt_spec l n
  have ha : 0 ≤ upG l n → z ∈ waL l n → 0 ≤ z ∧ z < l.length := fun hU h => by
    obtain ⟨q, eq, q1, q2, _⟩ := up_at hU
    obtain ⟨d, hd, rfl⟩ := wy_mem h
    omega
  have hb : 0 ≤ dnG l n → z ∈ wbL l n → 0 ≤ z ∧ z < l.length := fun hD h => by
    obtain ⟨p, ep, p1, p2, _⟩ := dn_at hD
    obtain ⟨d, hd, rfl⟩ := wy_mem h
    omega
  unfold wsL at hz
  split at hz
  · rename_i h
    rw [List.mem_singleton] at hz
    subst hz
    unfold inG at h ⊢
    rcases geS_spec l (gtS l n - gfS l n) (gfS l n) with ⟨e, _⟩ | ⟨i, e, a, b, _⟩ <;> omega
  · rename_i h
    split at hz
    · exact ha (by omega) hz
    · split at hz
      · rename_i h; exact ha h.1 hz
      · exact hb (by omega) hz

theorem ws_pos (l : List Sl) (n : Int) : 0 < (wsL l n).length := by
  have ha : 0 < (waL l n).length := by unfold waL wyL; simp
  have hb : 0 < (wbL l n).length := by unfold wbL wyL; simp
  unfold wsL
  split
  · simp
  · split
    · exact ha
    · split
      · exact ha
      · exact hb

theorem ws_len (l : List Sl) (n : Int) : (wsL l n).length ≤ l.length + 2 := by
  obtain ⟨f1, _, _⟩ := gf_spec l n
  have hw : ∀ (t s : Int) (k : Nat), (wyL l t s k).length ≤ k + 2 := fun t s k => by
    have := wgS_length (wyF l t s) k 0
    unfold wyL wyS
    rw [List.length_cons, List.length_map]
    omega
  have ha := hw (upG l n) 1 (gfS l n - 1 - (upG l n).toNat - 1)
  have hb := hw (dnG l n) (-1) ((dnG l n).toNat - gtS l n - 1)
  have hd : dnG l n ≤ l.length := by
    unfold dnG
    rcases geS_spec l (l.length - gtS l n) (gtS l n) with ⟨e, _⟩ | ⟨i, e, _, b, _⟩
    · omega
    · obtain ⟨t1, _, _⟩ := gt_spec l n; omega
  have ha : (waL l n).length ≤ l.length + 2 := by unfold waL; omega
  have hb : (wbL l n).length ≤ l.length + 2 := by unfold wbL; omega
  unfold wsL
  split
  · simp
  · split
    · exact ha
    · split
      · exact ha
      · exact hb

theorem row_part (l : List Sl) (f k : Nat) : List.take k (List.drop f (l.map slE)) = ((l.drop f).take k).map slE := by rw [← List.map_drop, ← List.map_take]

noncomputable def gshort12Cs : List (FuncId × Sx.Spec) := [(15, genSpec [pSl, none] ggap12F),
  (44, genSpec [pSl] gff12F),
  (46, genSpec [pSl] glf12F),
  (45, genSpec [pSl, none, none, none] gway12F)]

theorem gshort12_run (l : List Sl) (n : Int) (es : List AV) : run gshort12Cs Try.prog 28 [.vsl 0 0 (l.map slE).length, .int .i64 n] [some ⟨false, (pSl.getD (0, 0)).1, (pSl.getD (0, 0)).2, true, (l.map slE)⟩] (sh12H l n) (yields (.vrow 3 1 es)) =
    ((0 : Nat) + List.length (List.map slE l) ≤ List.length (List.map slE l) ∧ List.take (List.length (List.map slE l)) (List.drop 0 (List.map slE l)) = List.map slE (deS (List.take (List.length (List.map slE l)) (List.drop 0 (List.map slE l)))) ∧ List.length (deS (List.take (List.length (List.map slE l)) (List.drop 0 (List.map slE l)))) ≤ (1000000 : Nat) ∧ (if kpS (deS (List.take (List.length (List.map slE l)) (List.drop 0 (List.map slE l)))) = true then (↑(gtS (deS (List.take (List.length (List.map slE l)) (List.drop 0 (List.map slE l)))) n) : Int) else 0) = (↑(gtS l n) : Int) ∧ gtS l n < List.length (List.map slE l) + (1 : Nat) ∧ (if kpS (deS (List.take (List.length (List.map slE l)) (List.drop 0 (List.map slE l)))) = true then (↑(gfS (deS (List.take (List.length (List.map slE l)) (List.drop 0 (List.map slE l)))) n) : Int) else 0) = (↑(gfS l n) : Int) ∧ gfS l n < gtS l n + (1 : Nat) ∧ (0 : Nat) + gfS l n + (gtS l n - gfS l n) ≤ List.length (List.map slE l) ∧ List.take (gtS l n - gfS l n) (List.drop ((0 : Nat) + gfS l n) (List.map slE l)) = List.map slE (deS (List.take (gtS l n - gfS l n) (List.drop ((0 : Nat) + gfS l n) (List.map slE l)))) ∧ List.length (deS (List.take (gtS l n - gfS l n) (List.drop ((0 : Nat) + gfS l n) (List.map slE l)))) ≤ (1000000 : Nat) ∧ (Decidable.decide (geS (deS (List.take (gtS l n - gfS l n) (List.drop ((0 : Nat) + gfS l n) (List.map slE l)))) (List.length (deS (List.take (gtS l n - gfS l n) (List.drop ((0 : Nat) + gfS l n) (List.map slE l))))) 0 ≥ (0 : Int)) = true → inRange IntKind.i64 ((if kpS (deS (List.take (List.length (List.map slE l)) (List.drop 0 (List.map slE l)))) = true then (↑(gfS (deS (List.take (List.length (List.map slE l)) (List.drop 0 (List.map slE l)))) n) : Int) else 0) + geS (deS (List.take (gtS l n - gfS l n) (List.drop ((0 : Nat) + gfS l n) (List.map slE l)))) (List.length (deS (List.take (gtS l n - gfS l n) (List.drop ((0 : Nat) + gfS l n) (List.map slE l))))) 0) ∧ (1 : Nat) = List.length es ∧ some (Blk.mk true 3 1 (true && true) [AV.int IntKind.i64 ((if kpS (deS (List.take (List.length (List.map slE l)) (List.drop 0 (List.map slE l)))) = true then (↑(gfS (deS (List.take (List.length (List.map slE l)) (List.drop 0 (List.map slE l)))) n) : Int) else 0) + geS (deS (List.take (gtS l n - gfS l n) (List.drop ((0 : Nat) + gfS l n) (List.map slE l)))) (List.length (deS (List.take (gtS l n - gfS l n) (List.drop ((0 : Nat) + gfS l n) (List.map slE l))))) 0)]) = some (Blk.mk true (3 : TypeId) 1 true es)) ∧ (Decidable.decide (geS (deS (List.take (gtS l n - gfS l n) (List.drop ((0 : Nat) + gfS l n) (List.map slE l)))) (List.length (deS (List.take (gtS l n - gfS l n) (List.drop ((0 : Nat) + gfS l n) (List.map slE l))))) 0 ≥ (0 : Int)) = false → (if kpS (deS (List.take (List.length (List.map slE l)) (List.drop 0 (List.map slE l)))) = true then (↑(gtS (deS (List.take (List.length (List.map slE l)) (List.drop 0 (List.map slE l)))) n) : Int) else 0) = (↑(gtS l n) : Int) ∧ gtS l n < List.length (List.map slE l) + (1 : Nat) ∧ (0 : Nat) + gtS l n + (List.length (List.map slE l) - gtS l n) ≤ List.length (List.map slE l) ∧ List.take (List.length (List.map slE l) - gtS l n) (List.drop ((0 : Nat) + gtS l n) (List.map slE l)) = List.map slE (deS (List.take (List.length (List.map slE l) - gtS l n) (List.drop ((0 : Nat) + gtS l n) (List.map slE l)))) ∧ List.length (deS (List.take (List.length (List.map slE l) - gtS l n) (List.drop ((0 : Nat) + gtS l n) (List.map slE l)))) ≤ (1000000 : Nat) ∧ (Decidable.decide (geS (deS (List.take (List.length (List.map slE l) - gtS l n) (List.drop ((0 : Nat) + gtS l n) (List.map slE l)))) (List.length (deS (List.take (List.length (List.map slE l) - gtS l n) (List.drop ((0 : Nat) + gtS l n) (List.map slE l))))) 0 ≥ (0 : Int)) = true → inRange IntKind.i64 ((if kpS (deS (List.take (List.length (List.map slE l)) (List.drop 0 (List.map slE l)))) = true then (↑(gtS (deS (List.take (List.length (List.map slE l)) (List.drop 0 (List.map slE l)))) n) : Int) else 0) + geS (deS (List.take (List.length (List.map slE l) - gtS l n) (List.drop ((0 : Nat) + gtS l n) (List.map slE l)))) (List.length (deS (List.take (List.length (List.map slE l) - gtS l n) (List.drop ((0 : Nat) + gtS l n) (List.map slE l))))) 0) ∧ (0 : Nat) + List.length (List.map slE l) ≤ List.length (List.map slE l) ∧ List.take (List.length (List.map slE l)) (List.drop 0 (List.map slE l)) = List.map slE (deS (List.take (List.length (List.map slE l)) (List.drop 0 (List.map slE l)))) ∧ List.length (deS (List.take (List.length (List.map slE l)) (List.drop 0 (List.map slE l)))) ≤ (1000000 : Nat) ∧ (((0 : Int) ≤ (if kpS (deS (List.take (List.length (List.map slE l)) (List.drop 0 (List.map slE l)))) = true then (↑(gtS (deS (List.take (List.length (List.map slE l)) (List.drop 0 (List.map slE l)))) n) : Int) else 0) + geS (deS (List.take (List.length (List.map slE l) - gtS l n) (List.drop ((0 : Nat) + gtS l n) (List.map slE l)))) (List.length (deS (List.take (List.length (List.map slE l) - gtS l n) (List.drop ((0 : Nat) + gtS l n) (List.map slE l))))) 0 ∧ (if kpS (deS (List.take (List.length (List.map slE l)) (List.drop 0 (List.map slE l)))) = true then (↑(gtS (deS (List.take (List.length (List.map slE l)) (List.drop 0 (List.map slE l)))) n) : Int) else 0) + geS (deS (List.take (List.length (List.map slE l) - gtS l n) (List.drop ((0 : Nat) + gtS l n) (List.map slE l)))) (List.length (deS (List.take (List.length (List.map slE l) - gtS l n) (List.drop ((0 : Nat) + gtS l n) (List.map slE l))))) 0 < (↑(List.length (deS (List.take (List.length (List.map slE l)) (List.drop 0 (List.map slE l))))) : Int) ∧ ((0 : Int) ≤ if kpS (deS (List.take (List.length (List.map slE l)) (List.drop 0 (List.map slE l)))) = true then (↑(gtS (deS (List.take (List.length (List.map slE l)) (List.drop 0 (List.map slE l)))) n) : Int) else 0) ∧ (if kpS (deS (List.take (List.length (List.map slE l)) (List.drop 0 (List.map slE l)))) = true then (↑(gtS (deS (List.take (List.length (List.map slE l)) (List.drop 0 (List.map slE l)))) n) : Int) else 0) < (↑(List.length (deS (List.take (List.length (List.map slE l)) (List.drop 0 (List.map slE l))))) : Int)) ∧ (((-1 : Int) = (1 : Int) ∧ (if kpS (deS (List.take (List.length (List.map slE l)) (List.drop 0 (List.map slE l)))) = true then (↑(gtS (deS (List.take (List.length (List.map slE l)) (List.drop 0 (List.map slE l)))) n) : Int) else 0) + geS (deS (List.take (List.length (List.map slE l) - gtS l n) (List.drop ((0 : Nat) + gtS l n) (List.map slE l)))) (List.length (deS (List.take (List.length (List.map slE l) - gtS l n) (List.drop ((0 : Nat) + gtS l n) (List.map slE l))))) 0 < if kpS (deS (List.take (List.length (List.map slE l)) (List.drop 0 (List.map slE l)))) = true then (↑(gtS (deS (List.take (List.length (List.map slE l)) (List.drop 0 (List.map slE l)))) n) : Int) else 0) ∨ (-1 : Int) = (-1 : Int) ∧ (if kpS (deS (List.take (List.length (List.map slE l)) (List.drop 0 (List.map slE l)))) = true then (↑(gtS (deS (List.take (List.length (List.map slE l)) (List.drop 0 (List.map slE l)))) n) : Int) else 0) < (if kpS (deS (List.take (List.length (List.map slE l)) (List.drop 0 (List.map slE l)))) = true then (↑(gtS (deS (List.take (List.length (List.map slE l)) (List.drop 0 (List.map slE l)))) n) : Int) else 0) + geS (deS (List.take (List.length (List.map slE l) - gtS l n) (List.drop ((0 : Nat) + gtS l n) (List.map slE l)))) (List.length (deS (List.take (List.length (List.map slE l) - gtS l n) (List.drop ((0 : Nat) + gtS l n) (List.map slE l))))) 0)) ∧ (wiR (wyL (deS (List.take (List.length (List.map slE l)) (List.drop 0 (List.map slE l)))) ((if kpS (deS (List.take (List.length (List.map slE l)) (List.drop 0 (List.map slE l)))) = true then (↑(gtS (deS (List.take (List.length (List.map slE l)) (List.drop 0 (List.map slE l)))) n) : Int) else 0) + geS (deS (List.take (List.length (List.map slE l) - gtS l n) (List.drop ((0 : Nat) + gtS l n) (List.map slE l)))) (List.length (deS (List.take (List.length (List.map slE l) - gtS l n) (List.drop ((0 : Nat) + gtS l n) (List.map slE l))))) 0) (-1) (wyN ((if kpS (deS (List.take (List.length (List.map slE l)) (List.drop 0 (List.map slE l)))) = true then (↑(gtS (deS (List.take (List.length (List.map slE l)) (List.drop 0 (List.map slE l)))) n) : Int) else 0) + geS (deS (List.take (List.length (List.map slE l) - gtS l n) (List.drop ((0 : Nat) + gtS l n) (List.map slE l)))) (List.length (deS (List.take (List.length (List.map slE l) - gtS l n) (List.drop ((0 : Nat) + gtS l n) (List.map slE l))))) 0) (if kpS (deS (List.take (List.length (List.map slE l)) (List.drop 0 (List.map slE l)))) = true then (↑(gtS (deS (List.take (List.length (List.map slE l)) (List.drop 0 (List.map slE l)))) n) : Int) else 0))) = wiR (wbL l n) ∧ List.length (wiR (wyL (deS (List.take (List.length (List.map slE l)) (List.drop 0 (List.map slE l)))) ((if kpS (deS (List.take (List.length (List.map slE l)) (List.drop 0 (List.map slE l)))) = true then (↑(gtS (deS (List.take (List.length (List.map slE l)) (List.drop 0 (List.map slE l)))) n) : Int) else 0) + geS (deS (List.take (List.length (List.map slE l) - gtS l n) (List.drop ((0 : Nat) + gtS l n) (List.map slE l)))) (List.length (deS (List.take (List.length (List.map slE l) - gtS l n) (List.drop ((0 : Nat) + gtS l n) (List.map slE l))))) 0) (-1) (wyN ((if kpS (deS (List.take (List.length (List.map slE l)) (List.drop 0 (List.map slE l)))) = true then (↑(gtS (deS (List.take (List.length (List.map slE l)) (List.drop 0 (List.map slE l)))) n) : Int) else 0) + geS (deS (List.take (List.length (List.map slE l) - gtS l n) (List.drop ((0 : Nat) + gtS l n) (List.map slE l)))) (List.length (deS (List.take (List.length (List.map slE l) - gtS l n) (List.drop ((0 : Nat) + gtS l n) (List.map slE l))))) 0) (if kpS (deS (List.take (List.length (List.map slE l)) (List.drop 0 (List.map slE l)))) = true then (↑(gtS (deS (List.take (List.length (List.map slE l)) (List.drop 0 (List.map slE l)))) n) : Int) else 0)))) = List.length (wiR (wbL l n))) ∧ (if kpS (deS (List.take (List.length (List.map slE l)) (List.drop 0 (List.map slE l)))) = true then (↑(gfS (deS (List.take (List.length (List.map slE l)) (List.drop 0 (List.map slE l)))) n) : Int) else 0) = (↑(gfS l n) : Int) ∧ gfS l n < List.length (List.map slE l) + (1 : Nat) ∧ (0 : Nat) + (0 : Nat) + (gfS l n - (0 : Nat)) ≤ List.length (List.map slE l) ∧ List.take (gfS l n - (0 : Nat)) (List.drop ((0 : Nat) + (0 : Nat)) (List.map slE l)) = List.map slE (deS (List.take (gfS l n - (0 : Nat)) (List.drop ((0 : Nat) + (0 : Nat)) (List.map slE l)))) ∧ List.length (deS (List.take (gfS l n - (0 : Nat)) (List.drop ((0 : Nat) + (0 : Nat)) (List.map slE l)))) ≤ (1000000 : Nat) ∧ (Decidable.decide (upS (deS (List.take (gfS l n - (0 : Nat)) (List.drop ((0 : Nat) + (0 : Nat)) (List.map slE l)))) (List.length (deS (List.take (gfS l n - (0 : Nat)) (List.drop ((0 : Nat) + (0 : Nat)) (List.map slE l))))) ≥ (0 : Int)) = true → inRange IntKind.i64 ((if kpS (deS (List.take (List.length (List.map slE l)) (List.drop 0 (List.map slE l)))) = true then (↑(gfS (deS (List.take (List.length (List.map slE l)) (List.drop 0 (List.map slE l)))) n) : Int) else 0) - (1 : Int)) ∧ (0 : Nat) + List.length (List.map slE l) ≤ List.length (List.map slE l) ∧ List.take (List.length (List.map slE l)) (List.drop 0 (List.map slE l)) = List.map slE (deS (List.take (List.length (List.map slE l)) (List.drop 0 (List.map slE l)))) ∧ List.length (deS (List.take (List.length (List.map slE l)) (List.drop 0 (List.map slE l)))) ≤ (1000000 : Nat) ∧ (((0 : Int) ≤ upS (deS (List.take (gfS l n - (0 : Nat)) (List.drop ((0 : Nat) + (0 : Nat)) (List.map slE l)))) (List.length (deS (List.take (gfS l n - (0 : Nat)) (List.drop ((0 : Nat) + (0 : Nat)) (List.map slE l))))) ∧ upS (deS (List.take (gfS l n - (0 : Nat)) (List.drop ((0 : Nat) + (0 : Nat)) (List.map slE l)))) (List.length (deS (List.take (gfS l n - (0 : Nat)) (List.drop ((0 : Nat) + (0 : Nat)) (List.map slE l))))) < (↑(List.length (deS (List.take (List.length (List.map slE l)) (List.drop 0 (List.map slE l))))) : Int) ∧ (0 : Int) ≤ (if kpS (deS (List.take (List.length (List.map slE l)) (List.drop 0 (List.map slE l)))) = true then (↑(gfS (deS (List.take (List.length (List.map slE l)) (List.drop 0 (List.map slE l)))) n) : Int) else 0) - (1 : Int) ∧ (if kpS (deS (List.take (List.length (List.map slE l)) (List.drop 0 (List.map slE l)))) = true then (↑(gfS (deS (List.take (List.length (List.map slE l)) (List.drop 0 (List.map slE l)))) n) : Int) else 0) - (1 : Int) < (↑(List.length (deS (List.take (List.length (List.map slE l)) (List.drop 0 (List.map slE l))))) : Int)) ∧ ((1 : Int) = (1 : Int) ∧ upS (deS (List.take (gfS l n - (0 : Nat)) (List.drop ((0 : Nat) + (0 : Nat)) (List.map slE l)))) (List.length (deS (List.take (gfS l n - (0 : Nat)) (List.drop ((0 : Nat) + (0 : Nat)) (List.map slE l))))) < (if kpS (deS (List.take (List.length (List.map slE l)) (List.drop 0 (List.map slE l)))) = true then (↑(gfS (deS (List.take (List.length (List.map slE l)) (List.drop 0 (List.map slE l)))) n) : Int) else 0) - (1 : Int) ∨ (1 : Int) = (-1 : Int) ∧ (if kpS (deS (List.take (List.length (List.map slE l)) (List.drop 0 (List.map slE l)))) = true then (↑(gfS (deS (List.take (List.length (List.map slE l)) (List.drop 0 (List.map slE l)))) n) : Int) else 0) - (1 : Int) < upS (deS (List.take (gfS l n - (0 : Nat)) (List.drop ((0 : Nat) + (0 : Nat)) (List.map slE l)))) (List.length (deS (List.take (gfS l n - (0 : Nat)) (List.drop ((0 : Nat) + (0 : Nat)) (List.map slE l))))))) ∧ (wiR (wyL (deS (List.take (List.length (List.map slE l)) (List.drop 0 (List.map slE l)))) (upS (deS (List.take (gfS l n - (0 : Nat)) (List.drop ((0 : Nat) + (0 : Nat)) (List.map slE l)))) (List.length (deS (List.take (gfS l n - (0 : Nat)) (List.drop ((0 : Nat) + (0 : Nat)) (List.map slE l)))))) 1 (wyN (upS (deS (List.take (gfS l n - (0 : Nat)) (List.drop ((0 : Nat) + (0 : Nat)) (List.map slE l)))) (List.length (deS (List.take (gfS l n - (0 : Nat)) (List.drop ((0 : Nat) + (0 : Nat)) (List.map slE l)))))) ((if kpS (deS (List.take (List.length (List.map slE l)) (List.drop 0 (List.map slE l)))) = true then (↑(gfS (deS (List.take (List.length (List.map slE l)) (List.drop 0 (List.map slE l)))) n) : Int) else 0) - (1 : Int)))) = wiR (waL l n) ∧ List.length (wiR (wyL (deS (List.take (List.length (List.map slE l)) (List.drop 0 (List.map slE l)))) (upS (deS (List.take (gfS l n - (0 : Nat)) (List.drop ((0 : Nat) + (0 : Nat)) (List.map slE l)))) (List.length (deS (List.take (gfS l n - (0 : Nat)) (List.drop ((0 : Nat) + (0 : Nat)) (List.map slE l)))))) 1 (wyN (upS (deS (List.take (gfS l n - (0 : Nat)) (List.drop ((0 : Nat) + (0 : Nat)) (List.map slE l)))) (List.length (deS (List.take (gfS l n - (0 : Nat)) (List.drop ((0 : Nat) + (0 : Nat)) (List.map slE l)))))) ((if kpS (deS (List.take (List.length (List.map slE l)) (List.drop 0 (List.map slE l)))) = true then (↑(gfS (deS (List.take (List.length (List.map slE l)) (List.drop 0 (List.map slE l)))) n) : Int) else 0) - (1 : Int))))) = List.length (wiR (waL l n))) ∧ (List.length (wiR (wbL l n)) = (0 : Nat) → List.length (wiR (waL l n)) = List.length es ∧ some (Blk.mk true (3 : TypeId) 1 true (wiR (waL l n))) = some (Blk.mk true (3 : TypeId) 1 true es)) ∧ (List.length (wiR (waL l n)) = (0 : Nat) → List.length (wiR (wbL l n)) = List.length es ∧ some (Blk.mk true (3 : TypeId) 1 true (wiR (wbL l n))) = some (Blk.mk true (3 : TypeId) 1 true es)) ∧ (Decidable.decide ((↑(List.length (wiR (waL l n))) : Int) < (↑(List.length (wiR (wbL l n))) : Int)) = true → List.length (wiR (waL l n)) = List.length es ∧ some (Blk.mk true (3 : TypeId) 1 true (wiR (waL l n))) = some (Blk.mk true (3 : TypeId) 1 true es)) ∧ (Decidable.decide ((↑(List.length (wiR (waL l n))) : Int) < (↑(List.length (wiR (wbL l n))) : Int)) = false → List.length (wiR (wbL l n)) = List.length es ∧ some (Blk.mk true (3 : TypeId) 1 true (wiR (wbL l n))) = some (Blk.mk true (3 : TypeId) 1 true es))) ∧ (Decidable.decide (upS (deS (List.take (gfS l n - (0 : Nat)) (List.drop ((0 : Nat) + (0 : Nat)) (List.map slE l)))) (List.length (deS (List.take (gfS l n - (0 : Nat)) (List.drop ((0 : Nat) + (0 : Nat)) (List.map slE l))))) ≥ (0 : Int)) = false → (List.length (wiR (wbL l n)) = (0 : Nat) → es = []) ∧ (!true) = false ∧ List.length (wiR (wbL l n)) = List.length es ∧ some (Blk.mk true (3 : TypeId) 1 true (wiR (wbL l n))) = some (Blk.mk true (3 : TypeId) 1 true es))) ∧ (Decidable.decide (geS (deS (List.take (List.length (List.map slE l) - gtS l n) (List.drop ((0 : Nat) + gtS l n) (List.map slE l)))) (List.length (deS (List.take (List.length (List.map slE l) - gtS l n) (List.drop ((0 : Nat) + gtS l n) (List.map slE l))))) 0 ≥ (0 : Int)) = false → (if kpS (deS (List.take (List.length (List.map slE l)) (List.drop 0 (List.map slE l)))) = true then (↑(gfS (deS (List.take (List.length (List.map slE l)) (List.drop 0 (List.map slE l)))) n) : Int) else 0) = (↑(gfS l n) : Int) ∧ gfS l n < List.length (List.map slE l) + (1 : Nat) ∧ (0 : Nat) + (0 : Nat) + (gfS l n - (0 : Nat)) ≤ List.length (List.map slE l) ∧ List.take (gfS l n - (0 : Nat)) (List.drop ((0 : Nat) + (0 : Nat)) (List.map slE l)) = List.map slE (deS (List.take (gfS l n - (0 : Nat)) (List.drop ((0 : Nat) + (0 : Nat)) (List.map slE l)))) ∧ List.length (deS (List.take (gfS l n - (0 : Nat)) (List.drop ((0 : Nat) + (0 : Nat)) (List.map slE l)))) ≤ (1000000 : Nat) ∧ (Decidable.decide (upS (deS (List.take (gfS l n - (0 : Nat)) (List.drop ((0 : Nat) + (0 : Nat)) (List.map slE l)))) (List.length (deS (List.take (gfS l n - (0 : Nat)) (List.drop ((0 : Nat) + (0 : Nat)) (List.map slE l))))) ≥ (0 : Int)) = true → inRange IntKind.i64 ((if kpS (deS (List.take (List.length (List.map slE l)) (List.drop 0 (List.map slE l)))) = true then (↑(gfS (deS (List.take (List.length (List.map slE l)) (List.drop 0 (List.map slE l)))) n) : Int) else 0) - (1 : Int)) ∧ (0 : Nat) + List.length (List.map slE l) ≤ List.length (List.map slE l) ∧ List.take (List.length (List.map slE l)) (List.drop 0 (List.map slE l)) = List.map slE (deS (List.take (List.length (List.map slE l)) (List.drop 0 (List.map slE l)))) ∧ List.length (deS (List.take (List.length (List.map slE l)) (List.drop 0 (List.map slE l)))) ≤ (1000000 : Nat) ∧ (((0 : Int) ≤ upS (deS (List.take (gfS l n - (0 : Nat)) (List.drop ((0 : Nat) + (0 : Nat)) (List.map slE l)))) (List.length (deS (List.take (gfS l n - (0 : Nat)) (List.drop ((0 : Nat) + (0 : Nat)) (List.map slE l))))) ∧ upS (deS (List.take (gfS l n - (0 : Nat)) (List.drop ((0 : Nat) + (0 : Nat)) (List.map slE l)))) (List.length (deS (List.take (gfS l n - (0 : Nat)) (List.drop ((0 : Nat) + (0 : Nat)) (List.map slE l))))) < (↑(List.length (deS (List.take (List.length (List.map slE l)) (List.drop 0 (List.map slE l))))) : Int) ∧ (0 : Int) ≤ (if kpS (deS (List.take (List.length (List.map slE l)) (List.drop 0 (List.map slE l)))) = true then (↑(gfS (deS (List.take (List.length (List.map slE l)) (List.drop 0 (List.map slE l)))) n) : Int) else 0) - (1 : Int) ∧ (if kpS (deS (List.take (List.length (List.map slE l)) (List.drop 0 (List.map slE l)))) = true then (↑(gfS (deS (List.take (List.length (List.map slE l)) (List.drop 0 (List.map slE l)))) n) : Int) else 0) - (1 : Int) < (↑(List.length (deS (List.take (List.length (List.map slE l)) (List.drop 0 (List.map slE l))))) : Int)) ∧ ((1 : Int) = (1 : Int) ∧ upS (deS (List.take (gfS l n - (0 : Nat)) (List.drop ((0 : Nat) + (0 : Nat)) (List.map slE l)))) (List.length (deS (List.take (gfS l n - (0 : Nat)) (List.drop ((0 : Nat) + (0 : Nat)) (List.map slE l))))) < (if kpS (deS (List.take (List.length (List.map slE l)) (List.drop 0 (List.map slE l)))) = true then (↑(gfS (deS (List.take (List.length (List.map slE l)) (List.drop 0 (List.map slE l)))) n) : Int) else 0) - (1 : Int) ∨ (1 : Int) = (-1 : Int) ∧ (if kpS (deS (List.take (List.length (List.map slE l)) (List.drop 0 (List.map slE l)))) = true then (↑(gfS (deS (List.take (List.length (List.map slE l)) (List.drop 0 (List.map slE l)))) n) : Int) else 0) - (1 : Int) < upS (deS (List.take (gfS l n - (0 : Nat)) (List.drop ((0 : Nat) + (0 : Nat)) (List.map slE l)))) (List.length (deS (List.take (gfS l n - (0 : Nat)) (List.drop ((0 : Nat) + (0 : Nat)) (List.map slE l))))))) ∧ (wiR (wyL (deS (List.take (List.length (List.map slE l)) (List.drop 0 (List.map slE l)))) (upS (deS (List.take (gfS l n - (0 : Nat)) (List.drop ((0 : Nat) + (0 : Nat)) (List.map slE l)))) (List.length (deS (List.take (gfS l n - (0 : Nat)) (List.drop ((0 : Nat) + (0 : Nat)) (List.map slE l)))))) 1 (wyN (upS (deS (List.take (gfS l n - (0 : Nat)) (List.drop ((0 : Nat) + (0 : Nat)) (List.map slE l)))) (List.length (deS (List.take (gfS l n - (0 : Nat)) (List.drop ((0 : Nat) + (0 : Nat)) (List.map slE l)))))) ((if kpS (deS (List.take (List.length (List.map slE l)) (List.drop 0 (List.map slE l)))) = true then (↑(gfS (deS (List.take (List.length (List.map slE l)) (List.drop 0 (List.map slE l)))) n) : Int) else 0) - (1 : Int)))) = wiR (waL l n) ∧ List.length (wiR (wyL (deS (List.take (List.length (List.map slE l)) (List.drop 0 (List.map slE l)))) (upS (deS (List.take (gfS l n - (0 : Nat)) (List.drop ((0 : Nat) + (0 : Nat)) (List.map slE l)))) (List.length (deS (List.take (gfS l n - (0 : Nat)) (List.drop ((0 : Nat) + (0 : Nat)) (List.map slE l)))))) 1 (wyN (upS (deS (List.take (gfS l n - (0 : Nat)) (List.drop ((0 : Nat) + (0 : Nat)) (List.map slE l)))) (List.length (deS (List.take (gfS l n - (0 : Nat)) (List.drop ((0 : Nat) + (0 : Nat)) (List.map slE l)))))) ((if kpS (deS (List.take (List.length (List.map slE l)) (List.drop 0 (List.map slE l)))) = true then (↑(gfS (deS (List.take (List.length (List.map slE l)) (List.drop 0 (List.map slE l)))) n) : Int) else 0) - (1 : Int))))) = List.length (wiR (waL l n))) ∧ true = true ∧ List.length (wiR (waL l n)) = List.length es ∧ some (Blk.mk true (3 : TypeId) 1 true (wiR (waL l n))) = some (Blk.mk true (3 : TypeId) 1 true es)) ∧ (Decidable.decide (upS (deS (List.take (gfS l n - (0 : Nat)) (List.drop ((0 : Nat) + (0 : Nat)) (List.map slE l)))) (List.length (deS (List.take (gfS l n - (0 : Nat)) (List.drop ((0 : Nat) + (0 : Nat)) (List.map slE l))))) ≥ (0 : Int)) = false → true = true ∧ es = [])))) := by kernel_rfl

theorem gshort12Cs_ok : ∀ e ∈ gshort12Cs, SpecOK Try.prog e.1 e.2 := by
  intro e he
  simp only [gshort12Cs, List.mem_cons, List.not_mem_nil, or_false] at he
  rcases he with rfl | rfl | rfl | rfl
  · exact ggap12_ok
  · exact gff12_ok
  · exact glf12_ok
  · exact gway12_ok

theorem gshort12_ok : SpecOK Try.prog 28 (genSpec [pSl, none] gshort12F) := by
  refine genSpec_ok (run_ok (l := gshort12Cs) gshort12Cs_ok mixed noNG) fun l R hF => ?_
  unfold gshort12F at hF
  split at hF
  · rename_i r_l n
    obtain ⟨hr_l, hl, hF⟩ := hF
    generalize deS r_l = l at hr_l hl hF
    subst hr_l
    obtain ⟨hk, hF⟩ := hF
    refine ⟨_, hF, trivial, (sh12H l n), ?_⟩
    show run gshort12Cs Try.prog _ [.vsl 0 0 (l.map slE).length, .int .i64 n] [some ⟨false, (pSl.getD (0, 0)).1, (pSl.getD (0, 0)).2, true, (l.map slE)⟩] _ _
    rw [gshort12_run]
    obtain ⟨hk, hno⟩ := hk
    have hK := kpS_iff.1 hk
    have hlm : (l.map slE).length = l.length := List.length_map _
    obtain ⟨f1, _, _⟩ := gf_spec l n
    obtain ⟨t1, _, _⟩ := gt_spec l n
    have hle := gap_le hK n
    have lW : ∀ w, (wiR w).length = w.length := fun w => List.length_map _
    have eI : geS ((l.drop (gfS l n)).take (gtS l n - gfS l n)) ((l.drop (gfS l n)).take (gtS l n - gfS l n)).length 0 = if 0 ≤ inG l n then inG l n - gfS l n else -1 := by
      rw [part_length (by omega), ge_part]; rfl
    have eD : geS ((l.drop (gtS l n)).take (l.length - gtS l n)) ((l.drop (gtS l n)).take (l.length - gtS l n)).length 0 = if 0 ≤ dnG l n then dnG l n - gtS l n else -1 := by
      rw [part_length (by omega), ge_part]; rfl
    have eU : upS ((l.drop 0).take (gfS l n)) ((l.drop 0).take (gfS l n)).length = upG l n := by
      rw [part_length (by omega), up_part _ (Nat.le_refl _)]; rfl
    simp only [whole_row, deS_map, zLe, true_and, hl, hk, if_true]
    simp only [row_part, deS_map, Nat.zero_add, Nat.add_zero, Nat.sub_zero, hlm, eI, eD, eU, eq_self, true_and]
    have hin : 0 ≤ inG l n → (gfS l n : Int) ≤ inG l n ∧ inG l n < l.length := fun h => by
      unfold inG at h ⊢
      rcases geS_spec l (gtS l n - gfS l n) (gfS l n) with ⟨e, _⟩ | ⟨i, e, a, b, _⟩ <;> omega
    have lb : ¬ (wiR (wbL l n)).length = 0 := by rw [lW]; unfold wbL wyL; simp
    have la : ¬ (wiR (waL l n)).length = 0 := by rw [lW]; unfold waL wyL; simp
    refine ⟨by omega, by omega, by omega, by rw [part_length (by omega)]; omega, fun h => ?_, fun h => ⟨by omega, by omega, by rw [part_length (by omega)]; omega, fun h2 => ?_, fun h2 => ?_⟩⟩
    · have h : 0 ≤ inG l n := by have := of_decide_eq_true h; split at this <;> omega
      have hi := hin h
      have e : wsL l n = [inG l n] := by unfold wsL; rw [if_pos h]
      rw [if_pos h, e, show (gfS l n : Int) + (inG l n - gfS l n) = inG l n from by omega]
      exact ⟨inR (by omega) (by omega), rfl, rfl⟩
    all_goals
      have hI : ¬ 0 ≤ inG l n := fun hh => by
        have := of_decide_eq_false h
        rw [if_pos hh] at this
        have := hin hh
        omega
    · have hD : 0 ≤ dnG l n := by have := of_decide_eq_true h2; split at this <;> omega
      obtain ⟨p, ep, p1, p2, p3⟩ := dn_at hD
      have eb : wyL l (dnG l n) (-1) (wyN (dnG l n) (gtS l n)) = wbL l n := by
        unfold wbL
        rw [show wyN (dnG l n) (gtS l n) = (dnG l n).toNat - gtS l n - 1 from by unfold wyN; omega]
      rw [if_pos hD, show (gtS l n : Int) + (dnG l n - gtS l n) = dnG l n from by omega, eb]
      refine ⟨inR (by omega) (by omega), ⟨⟨by omega, by omega, by omega, by omega⟩, .inr (by omega)⟩, ⟨rfl, rfl⟩, by omega, f1, by rw [part_length (by omega)]; omega, fun h3 => ?_, fun h3 => ?_⟩
      · have hU : 0 ≤ upG l n := of_decide_eq_true h3
        obtain ⟨q, eq, q1, q2, q3⟩ := up_at hU
        have ea : wyL l (upG l n) 1 (wyN (upG l n) ((gfS l n : Int) - 1)) = waL l n := by
          unfold waL
          rw [show wyN (upG l n) ((gfS l n : Int) - 1) = gfS l n - 1 - (upG l n).toNat - 1 from by unfold wyN; omega]
        rw [ea]
        have es : wsL l n = if (waL l n).length < (wbL l n).length then waL l n else wbL l n := by
          unfold wsL
          rw [if_neg hI, if_neg (by omega)]
          split
          · rename_i h; rw [if_pos h.2]
          · rename_i h; rw [if_neg fun hh => h ⟨hU, hh⟩]
        refine ⟨inR (by omega) (by omega), ⟨⟨hU, by omega, by omega, by omega⟩, .inl (by omega)⟩, ⟨rfl, rfl⟩, fun z => absurd z lb, fun z => absurd z la, fun h4 => ?_, fun h4 => ?_⟩
        · have h4 := of_decide_eq_true h4
          rw [lW, lW] at h4
          rw [es, if_pos (by omega)]
          exact ⟨rfl, rfl⟩
        · have h4 := of_decide_eq_false h4
          rw [lW, lW] at h4
          rw [es, if_neg (by omega)]
          exact ⟨rfl, rfl⟩
      · have hU : ¬ 0 ≤ upG l n := of_decide_eq_false h3
        have es : wsL l n = wbL l n := by
          unfold wsL
          rw [if_neg hI, if_neg (by omega), if_neg fun h => hU h.1]
        rw [es]
        exact ⟨fun z => absurd z lb, rfl, rfl, rfl⟩
    · have hD : dnG l n < 0 := by
        rcases Int.lt_or_le (dnG l n) 0 with hh | hh
        · exact hh
        · have := of_decide_eq_false h2
          rw [if_pos hh] at this
          obtain ⟨p, ep, p1, p2, p3⟩ := dn_at hh
          omega
      refine ⟨by omega, f1, by rw [part_length (by omega)]; omega, fun h3 => ?_, fun h3 => ?_⟩
      · have hU : 0 ≤ upG l n := of_decide_eq_true h3
        obtain ⟨q, eq, q1, q2, q3⟩ := up_at hU
        have ea : wyL l (upG l n) 1 (wyN (upG l n) ((gfS l n : Int) - 1)) = waL l n := by
          unfold waL
          rw [show wyN (upG l n) ((gfS l n : Int) - 1) = gfS l n - 1 - (upG l n).toNat - 1 from by unfold wyN; omega]
        have es : wsL l n = waL l n := by
          unfold wsL
          rw [if_neg hI, if_pos hD]
        rw [ea, es]
        exact ⟨inR (by omega) (by omega), ⟨⟨hU, by omega, by omega, by omega⟩, .inl (by omega)⟩, ⟨rfl, rfl⟩, rfl, rfl⟩
      · have hU : ¬ 0 ≤ upG l n := of_decide_eq_false h3
        exact absurd ⟨by omega, hD, by omega⟩ hno
  · exact hF.elim


noncomputable def ginsert12Cs : List (FuncId × Sx.Spec) := [(21, genSpec [none] erightF),
  (17, genSpec [pSl] gkept12F),
  (22, genSpec [pSl] gfree8F),
  (28, genSpec [pSl, none] gshort12F)]

theorem ginsert12_run (l : List Sl) (v w m n : BitVec 64) (k j : Int) : run ginsert12Cs Try.prog 10 [.vsl 0 0 (l.map slE).length, .agg [.w64 v, .w64 w, .w64 m, .w64 n, .int .i64 k, .int .i64 j]] [some ⟨false, (pSl.getD (0, 0)).1, (pSl.getD (0, 0)).2, true, (l.map slE)⟩] (pi12H l ⟨v, w, m, n, k, j⟩ (wsL l k)) (yields (.many [.vrow 60 8 ((inW l ⟨v, w, m, n, k, j⟩).map wrE), .v (.int .i64 (inE l ⟨v, w, m, n, k, j⟩))])) =
    (((!rtE (En.mk v w m n k j)) = true → List.map wrE (inW l (En.mk v w m n k j)) = [] ∧ AV.int IntKind.i64 1 = AV.int IntKind.i64 (inE l (En.mk v w m n k j)) ∧ True) ∧ ((!rtE (En.mk v w m n k j)) = false → (0 : Nat) + List.length (List.map slE l) ≤ List.length (List.map slE l) ∧ List.take (List.length (List.map slE l)) (List.drop 0 (List.map slE l)) = List.map slE (deS (List.take (List.length (List.map slE l)) (List.drop 0 (List.map slE l)))) ∧ List.length (deS (List.take (List.length (List.map slE l)) (List.drop 0 (List.map slE l)))) ≤ (1000000 : Nat) ∧ ((!kpS (deS (List.take (List.length (List.map slE l)) (List.drop 0 (List.map slE l))))) = true → List.map wrE (inW l (En.mk v w m n k j)) = [] ∧ AV.int IntKind.i64 7 = AV.int IntKind.i64 (inE l (En.mk v w m n k j)) ∧ True) ∧ ((!kpS (deS (List.take (List.length (List.map slE l)) (List.drop 0 (List.map slE l))))) = false → (0 : Nat) + List.length (List.map slE l) ≤ List.length (List.map slE l) ∧ List.take (List.length (List.map slE l)) (List.drop 0 (List.map slE l)) = List.map slE (deS (List.take (List.length (List.map slE l)) (List.drop 0 (List.map slE l)))) ∧ List.length (deS (List.take (List.length (List.map slE l)) (List.drop 0 (List.map slE l)))) ≤ (9223372036854775807 : Nat) ∧ ((frS (deS (List.take (List.length (List.map slE l)) (List.drop 0 (List.map slE l)))) == (0 : Int)) = true → List.map wrE (inW l (En.mk v w m n k j)) = [] ∧ AV.int IntKind.i64 3 = AV.int IntKind.i64 (inE l (En.mk v w m n k j)) ∧ True) ∧ ((frS (deS (List.take (List.length (List.map slE l)) (List.drop 0 (List.map slE l)))) == (0 : Int)) = false → (0 : Nat) + List.length (List.map slE l) ≤ List.length (List.map slE l) ∧ List.take (List.length (List.map slE l)) (List.drop 0 (List.map slE l)) = List.map slE (deS (List.take (List.length (List.map slE l)) (List.drop 0 (List.map slE l)))) ∧ List.length (deS (List.take (List.length (List.map slE l)) (List.drop 0 (List.map slE l)))) ≤ (1000000 : Nat) ∧ (kpS (deS (List.take (List.length (List.map slE l)) (List.drop 0 (List.map slE l)))) = true ∧ ¬(inG (deS (List.take (List.length (List.map slE l)) (List.drop 0 (List.map slE l)))) k < (0 : Int) ∧ dnG (deS (List.take (List.length (List.map slE l)) (List.drop 0 (List.map slE l)))) k < (0 : Int) ∧ upG (deS (List.take (List.length (List.map slE l)) (List.drop 0 (List.map slE l)))) k < (0 : Int))) ∧ (wiR (wsL (deS (List.take (List.length (List.map slE l)) (List.drop 0 (List.map slE l)))) k) = wiR (wsL l k) ∧ List.length (wiR (wsL (deS (List.take (List.length (List.map slE l)) (List.drop 0 (List.map slE l)))) k)) = List.length (wiR (wsL l k))) ∧ inRange IntKind.i64 ((↑(List.length (wiR (wsL l k))) : Int) - (1 : Int)) ∧ (↑(List.length (wiR (wsL l k))) : Int) - (1 : Int) = (↑(List.length (wsL l k) - (1 : Nat)) : Int) ∧ List.length (wsL l k) - (1 : Nat) < List.length (wiR (wsL l k)) + (1 : Nat) ∧ (St.mk [AV.vsl 0 0 (List.length (List.map slE l)), .any, .any, AV.ptr ((0 : Nat) + (1 : Nat)) 0 0 true, .any, .any, AV.vsl ((0 : Nat) + (1 : Nat) + (1 : Nat)) 0 (List.length (wiR (wsL l k))), AV.int IntKind.i64 ((↑(List.length (wiR (wsL l k))) : Int) - (1 : Int)), AV.vsl (List.length [some (Blk.mk false (58 : TypeId) 7 true (List.map slE l)), some (Blk.mk true 29 6 true [AV.agg [AV.w64 v, AV.w64 w, AV.w64 m, AV.w64 n, AV.int IntKind.i64 k, AV.int IntKind.i64 j]]), some (Blk.mk true (3 : TypeId) 1 true (wiR (wsL l k)))]) 0 0, .any, .any, .any, .any, .any, .any, .any, .any, .any, .any, .any, .any, .any, .any, .any, .any, .any, .any, .any, .any, .any, .any, .any, AV.vsl ((0 : Nat) + (1 : Nat) + (1 : Nat)) ((0 : Nat) + (0 : Nat)) (List.length (wsL l k) - (1 : Nat) - (0 : Nat)), AV.int IntKind.i64 (↑(List.length (wsL l k) - (1 : Nat) - (0 : Nat)) : Int), AV.int IntKind.i64 0, .any, .any, .any, .any, .any, .any, .any, .any, .any, .any, .any, .any, .any, .any, .any, .any, .any, .any, .any, .any, .any, .any, .any, .any, .any, .any, .any, .any] ([some (Blk.mk false (58 : TypeId) 7 true (List.map slE l)), some (Blk.mk true 29 6 true [AV.agg [AV.w64 v, AV.w64 w, AV.w64 m, AV.w64 n, AV.int IntKind.i64 k, AV.int IntKind.i64 j]]), some (Blk.mk true (3 : TypeId) 1 true (wiR (wsL l k)))] ++ [some (Blk.mk true (60 : TypeId) 8 true [])]) = pi12St l (En.mk v w m n k j) (wsL l k) ([], (0 : Nat)) ∧ pi12I l (En.mk v w m n k j) (wsL l k) ([], (0 : Nat))) ∧ ∀ (p : List Wr × Nat), pi12I l (En.mk v w m n k j) (wsL l k) p → (Decidable.decide ((↑p.2 : Int) < (↑(List.length (wsL l k) - (1 : Nat)) : Int)) = true → ((0 : Int) ≤ (↑p.2 : Int) ∧ (↑p.2 : Int) < (↑(List.length (wsL l k) - (1 : Nat)) : Int)) ∧ Blk.read Proofs.Try.prog (Blk.mk true (3 : TypeId) 1 true (wiR (wsL l k))) 3 ((0 : Nat) + Int.toNat (↑p.2 : Int)) 0 = some (wiA (wAt (wsL l k) p.2)) ∧ inRange IntKind.i64 ((↑p.2 : Int) + (1 : Int)) ∧ ((0 : Int) ≤ (↑p.2 : Int) + (1 : Int) ∧ (↑p.2 : Int) + (1 : Int) < (↑(List.length (wiR (wsL l k))) : Int)) ∧ Blk.read Proofs.Try.prog (Blk.mk true (3 : TypeId) 1 true (wiR (wsL l k))) 3 ((0 : Nat) + Int.toNat ((↑p.2 : Int) + (1 : Int))) 0 = some (wiA (wAt (wsL l k) (p.2 + (1 : Nat)))) ∧ ((0 : Int) ≤ wAt (wsL l k) (p.2 + (1 : Nat)) ∧ wAt (wsL l k) (p.2 + (1 : Nat)) < (↑(List.length (List.map slE l)) : Int)) ∧ Blk.read Proofs.Try.prog (Blk.mk false (58 : TypeId) 7 true (List.map slE l)) 58 ((0 : Nat) + Int.toNat (wAt (wsL l k) (p.2 + (1 : Nat)))) 0 = some (AV.agg [AV.bool (at' l (Int.toNat (wAt (wsL l k) (Prod.snd p + (1 : Nat))))).1, AV.w64 (Sl.e (at' l (Int.toNat (wAt (wsL l k) (Prod.snd p + (1 : Nat)))))).1, AV.w64 (Sl.e (at' l (Int.toNat (wAt (wsL l k) (Prod.snd p + (1 : Nat)))))).2, AV.w64 (Sl.e (at' l (Int.toNat (wAt (wsL l k) (Prod.snd p + (1 : Nat)))))).3, AV.w64 (Sl.e (at' l (Int.toNat (wAt (wsL l k) (Prod.snd p + (1 : Nat)))))).4, AV.int IntKind.i64 (Sl.e (at' l (Int.toNat (wAt (wsL l k) (Prod.snd p + (1 : Nat)))))).5, AV.int IntKind.i64 (Sl.e (at' l (Int.toNat (wAt (wsL l k) (Prod.snd p + (1 : Nat)))))).6]) ∧ ((List.length p.1 + (1 : Nat)) * (64 : Nat) ≤ (140737488355328 : Nat) ∧ List.length p.1 + (1 : Nat) ≤ (9223372036854775807 : Nat) ∧ (0 : Nat) + (1 : Nat) ≤ List.length [AV.agg [AV.int IntKind.i64 (wAt (wsL l k) p.2), AV.bool (at' l (Int.toNat (wAt (wsL l k) (Prod.snd p + (1 : Nat))))).1, AV.w64 (Sl.e (at' l (Int.toNat (wAt (wsL l k) (Prod.snd p + (1 : Nat)))))).1, AV.w64 (Sl.e (at' l (Int.toNat (wAt (wsL l k) (Prod.snd p + (1 : Nat)))))).2, AV.w64 (Sl.e (at' l (Int.toNat (wAt (wsL l k) (Prod.snd p + (1 : Nat)))))).3, AV.w64 (Sl.e (at' l (Int.toNat (wAt (wsL l k) (Prod.snd p + (1 : Nat)))))).4, AV.int IntKind.i64 (Sl.e (at' l (Int.toNat (wAt (wsL l k) (Prod.snd p + (1 : Nat)))))).5, AV.int IntKind.i64 (Sl.e (at' l (Int.toNat (wAt (wsL l k) (Prod.snd p + (1 : Nat)))))).6]] ∧ List.length p.1 ≤ List.length (List.map wrE (Prod.fst p))) ∧ List.take (List.length p.1) (List.map wrE (Prod.fst p)) ++ [AV.agg [AV.int IntKind.i64 (wAt (wsL l k) p.2), AV.bool (at' l (Int.toNat (wAt (wsL l k) (Prod.snd p + (1 : Nat))))).1, AV.w64 (Sl.e (at' l (Int.toNat (wAt (wsL l k) (Prod.snd p + (1 : Nat)))))).1, AV.w64 (Sl.e (at' l (Int.toNat (wAt (wsL l k) (Prod.snd p + (1 : Nat)))))).2, AV.w64 (Sl.e (at' l (Int.toNat (wAt (wsL l k) (Prod.snd p + (1 : Nat)))))).3, AV.w64 (Sl.e (at' l (Int.toNat (wAt (wsL l k) (Prod.snd p + (1 : Nat)))))).4, AV.int IntKind.i64 (Sl.e (at' l (Int.toNat (wAt (wsL l k) (Prod.snd p + (1 : Nat)))))).5, AV.int IntKind.i64 (Sl.e (at' l (Int.toNat (wAt (wsL l k) (Prod.snd p + (1 : Nat)))))).6]] = ppR (p.1 ++ [Wr.mk (wAt (wsL l k) p.2) (at' l (Int.toNat (wAt (wsL l k) (p.2 + (1 : Nat)))))]) ∧ inRange IntKind.i64 ((↑p.2 : Int) + (1 : Int)) ∧ ∃ (p' : List Wr × Nat), St.mk [AV.vsl 0 0 (List.length (List.map slE l)), .any, .any, AV.ptr ((0 : Nat) + (1 : Nat)) 0 0 true, .any, .any, AV.vsl ((0 : Nat) + (1 : Nat) + (1 : Nat)) 0 (List.length (wiR (wsL l k))), AV.int IntKind.i64 ((↑(List.length (wiR (wsL l k))) : Int) - (1 : Int)), AV.vsl ((0 : Nat) + (1 : Nat) + (1 : Nat) + (1 : Nat)) 0 (List.length p.1 + (1 : Nat)), .any, .any, .any, .any, .any, .any, .any, .any, .any, .any, .any, .any, .any, .any, .any, .any, .any, .any, .any, .any, .any, .any, .any, AV.vsl ((0 : Nat) + (1 : Nat) + (1 : Nat)) 0 (List.length (wsL l k) - (1 : Nat)), AV.int IntKind.i64 (↑(List.length (wsL l k) - (1 : Nat)) : Int), AV.int IntKind.i64 ((↑p.2 : Int) + (1 : Int)), .any, .any, .any, .any, .any, .any, .any, .any, .any, .any, .any, .any, .any, .any, .any, .any, .any, .any, .any, .any, .any, .any, .any, .any, .any, .any, .any, .any] [some (Blk.mk false (58 : TypeId) 7 true (List.map slE l)), some (Blk.mk true (29 : TypeId) 6 true [AV.agg [AV.w64 v, AV.w64 w, AV.w64 m, AV.w64 n, AV.int IntKind.i64 k, AV.int IntKind.i64 j]]), some (Blk.mk true (3 : TypeId) 1 true (wiR (wsL l k))), some (Blk.mk true 60 8 true (ppR (p.1 ++ [Wr.mk (wAt (wsL l k) p.2) (at' l (Int.toNat (wAt (wsL l k) (p.2 + (1 : Nat)))))])))] = pi12St l (En.mk v w m n k j) (wsL l k) p' ∧ pi12I l (En.mk v w m n k j) (wsL l k) p' ∧ List.length (wsL l k) - p'.2 < List.length (wsL l k) - p.2) ∧ (Decidable.decide ((↑p.2 : Int) < (↑(List.length (wsL l k) - (1 : Nat)) : Int)) = false → ((0 : Int) ≤ (↑(List.length (wiR (wsL l k))) : Int) - (1 : Int) ∧ (↑(List.length (wiR (wsL l k))) : Int) - (1 : Int) < (↑(List.length (wiR (wsL l k))) : Int)) ∧ Blk.read Proofs.Try.prog (Blk.mk true (3 : TypeId) 1 true (wiR (wsL l k))) 3 ((0 : Nat) + Int.toNat ((↑(List.length (wiR (wsL l k))) : Int) - (1 : Int))) 0 = some (wiA (wAt (wsL l k) (List.length (wsL l k) - (1 : Nat)))) ∧ ((List.length p.1 + (1 : Nat)) * (64 : Nat) ≤ (140737488355328 : Nat) ∧ List.length p.1 + (1 : Nat) ≤ (9223372036854775807 : Nat) ∧ (0 : Nat) + (1 : Nat) ≤ List.length [AV.agg [AV.int IntKind.i64 (wAt (wsL l k) (List.length (wsL l k) - (1 : Nat))), AV.bool true, AV.w64 v, AV.w64 w, AV.w64 m, AV.w64 n, AV.int IntKind.i64 k, AV.int IntKind.i64 j]] ∧ List.length p.1 ≤ List.length (List.map wrE (Prod.fst p))) ∧ List.take (List.length p.1) (List.map wrE (Prod.fst p)) ++ [AV.agg [AV.int IntKind.i64 (wAt (wsL l k) (List.length (wsL l k) - (1 : Nat))), AV.bool true, AV.w64 v, AV.w64 w, AV.w64 m, AV.w64 n, AV.int IntKind.i64 k, AV.int IntKind.i64 j]] = ppR (wwL l (En.mk v w m n k j) (wsL l k)) ∧ (List.length p.1 + (1 : Nat) = List.length (List.map wrE (inW l (En.mk v w m n k j))) ∧ some (Blk.mk true 60 8 true (ppR (wwL l (En.mk v w m n k j) (wsL l k)))) = some (Blk.mk true (60 : TypeId) 8 true (List.map wrE (inW l (En.mk v w m n k j))))) ∧ AV.int IntKind.i64 0 = AV.int IntKind.i64 (inE l (En.mk v w m n k j)) ∧ True))))) := by kernel_rfl

theorem ginsert12Cs_ok : ∀ e ∈ ginsert12Cs, SpecOK Try.prog e.1 e.2 := by
  intro e he
  simp only [ginsert12Cs, List.mem_cons, List.not_mem_nil, or_false] at he
  rcases he with rfl | rfl | rfl | rfl
  · exact eright_ok
  · exact gkept12_ok
  · exact gfree8_ok
  · exact gshort12_ok

theorem ginsert12_ok : SpecOK Try.prog 10 (genSpec [pSl, none] ginsert12F) := by
  refine genSpec_ok (run_ok (l := ginsert12Cs) ginsert12Cs_ok mixed noNG) fun l R hF => ?_
  unfold ginsert12F at hF
  split at hF
  · rename_i r_l v w m n k j
    obtain ⟨hr_l, hl, hF⟩ := hF
    generalize deS r_l = l at hr_l hl hF
    subst hr_l
    refine ⟨_, hF, rfl, (pi12H l ⟨v, w, m, n, k, j⟩ (wsL l k)), ?_⟩
    show run ginsert12Cs Try.prog _ [.vsl 0 0 (l.map slE).length, .agg [.w64 v, .w64 w, .w64 m, .w64 n, .int .i64 k, .int .i64 j]] [some ⟨false, (pSl.getD (0, 0)).1, (pSl.getD (0, 0)).2, true, (l.map slE)⟩] _ _
    rw [ginsert12_run]
    generalize hx : (⟨v, w, m, n, k, j⟩ : En) = x
    have ek : k = x.len := by rw [← hx]
    have hlm : (l.map slE).length = l.length := List.length_map _
    have lW : ∀ L : List Wr, (List.map wrE L).length = L.length := fun L => List.length_map _
    have lI : ∀ w, (wiR w).length = w.length := fun w => List.length_map _
    rw [ek]
    simp only [whole_row, deS_map, zLe, true_and, and_true, eq_self, hl]
    refine ⟨fun hr => ?_, fun hr => ⟨fun hk => ?_, fun hk => ⟨by omega, fun hf => ?_, fun hf => ?_⟩⟩⟩
    · have hr := notTT hr
      unfold inW inE
      rw [hr]; exact ⟨rfl, rfl⟩
    · have hr := notF hr
      have hk := notTT hk
      unfold inW inE
      rw [hr, hk]; exact ⟨rfl, rfl⟩
    all_goals
      have hr := notF hr
      have hk := notF hk
      have hK := kpS_iff.1 hk
      have hfull := full_iff l x.len hK
    · have hf : frS l = 0 := by simpa using hf
      have hfl := hfull.2 (by unfold frS at hf; have := ensS_length l; omega)
      unfold inW inE
      rw [hr, hk, Bool.and_self, if_pos rfl, if_pos rfl, if_pos rfl, if_pos hfl, inO_full hfl]
      exact ⟨rfl, rfl⟩
    have hno : ¬ (inG l x.len < 0 ∧ dnG l x.len < 0 ∧ upG l x.len < 0) := fun h => by
      have hf : frS l ≠ 0 := by simpa using hf
      have := hfull.1 h
      unfold frS at hf
      omega
    have eW : inW l x = wwL l x (wsL l x.len) := by
      unfold inW
      rw [hr, hk, Bool.and_self, if_pos rfl, ws_in hK hno]
    have eE : inE l x = 0 := by
      unfold inE
      rw [hr, hk, if_pos rfl, if_pos rfl, if_neg hno]
    have hrg := ws_range (n := x.len) hno
    have hpos := ws_pos l x.len
    have hlen := ws_len l x.len
    rw [eW, eE]
    generalize wsL l x.len = W at hrg hpos hlen
    have hat : ∀ i, i < W.length → 0 ≤ wAt W i ∧ wAt W i < l.length := fun i hi => hrg _ (wAt_mem hi)
    have rd : ∀ {i : Int}, 0 ≤ i → i < W.length → Blk.read Try.prog (Blk.mk true 3 1 true (wiR W)) 3 (0 + i.toNat) 0 = some (wiA (wAt W i.toNat)) := fun {i} h0 h1 => by
      have := read_rows (de := wiA) (l := W) (b := true) (ty := 3) (esz := 1) (t := 3) (o := 0) (k := i) h0 (by rw [List.length_map]; exact h1) (wi_whole _)
      exact this
    refine ⟨⟨hk, hno⟩, inR (by rw [lI]; omega) (by rw [lI]; omega), by rw [lI]; omega, by rw [lI]; omega, ⟨?_, by show 0 + 1 ≤ W.length; omega, rfl⟩, ?_⟩
    · unfold pi12St
      rw [← hx]; rfl
    rintro ⟨o, p⟩ ⟨hp, hI⟩
    dsimp only at hp hI ⊢
    have hol : o.length ≤ W.length := by
      have := congrArg List.length hI
      rw [List.length_append, wwL_length, wwL_length] at this
      omega
    refine ⟨fun hlt => ?_, fun hge => ?_⟩
    · have hlt : p + 1 < W.length := by have := of_decide_eq_true hlt; omega
      have h1 := hat (p + 1) hlt
      have r1 := rd (i := (p : Int)) (by omega) (by omega)
      have r2 := rd (i := (p : Int) + 1) (by omega) (by omega)
      rw [Int.toNat_natCast] at r1
      rw [show ((p : Int) + 1).toNat = p + 1 from by omega] at r2
      have B : 0 ≤ wAt W (p + 1) ∧ wAt W (p + 1) < ((l.map slE).length : Int) := by omega
      have st := ww_step (l := l) (x := x) hlt
      refine ⟨⟨by omega, by omega⟩, by rw [Int.toNat_natCast]; exact r1, inR (by omega) (by omega), ⟨by omega, by rw [lI]; omega⟩, by rw [show ((p : Int) + 1).toNat = p + 1 from by omega]; exact r2, B, read_rows B.1 B.2 (sl_whole _), ⟨by omega, by omega, Nat.le_refl _, by rw [lW]; exact Nat.le_refl _⟩, ?_, inR (by omega) (by omega), (o ++ [⟨wAt W p, at' l (wAt W (p + 1)).toNat⟩], p + 1), ?_, ⟨hlt, ?_⟩, by show W.length - (p + 1) < W.length - p; omega⟩
      · rw [List.take_of_length_le (by rw [lW]; exact Nat.le_refl _)]
        show _ = List.map wrE _
        rw [List.map_append]; rfl
      · unfold pi12St
        dsimp only
        rw [List.length_append, ← hx]; rfl
      · show (o ++ [_]) ++ wwL l x (W.drop (p + 1)) = _
        rw [← hI, st, List.append_assoc]; rfl
    · have hp : p + 1 = W.length := by have := of_decide_eq_false hge; omega
      have r1 := rd (i := (p : Int)) (by omega) (by omega)
      rw [Int.toNat_natCast] at r1
      have el := ww_last (l := l) (x := x) hp
      rw [el] at hI
      have e1 : W.length - 1 = p := by omega
      rw [e1, lI, show ((W.length : Int) - 1) = (p : Int) from by omega]
      refine ⟨⟨by omega, by omega⟩, by rw [Int.toNat_natCast]; exact r1, ⟨by omega, by omega, Nat.le_refl _, by rw [lW]; exact Nat.le_refl _⟩, ?_, ⟨?_, rfl⟩, rfl⟩
      · rw [List.take_of_length_le (by rw [lW]; exact Nat.le_refl _), ← hI]
        show _ = List.map wrE _
        rw [List.map_append, ← hx]; rfl
      · rw [lW, ← hI, List.length_append]; rfl
  · exact hF.elim


end Go.Proofs.Ytlmhnfkbingmdaa.L1
end

section
/-
  Layer 12: the contract of the program's Lengths: a set of numbers.
-/
namespace Go.Proofs.Ytlmhnfkbingmdaa.L1
open Go.Sx Go.Sx.M

def ln12E (l : List Sl) : List AV := List.map enE (ensS l)
/-- What was put of the first p entries, the last one first. -/
def ln12N (l : List Sl) (p : Nat) : List Int := (((ensS l).take p).map En.len).reverse
def ln12K (l : List Sl) (p : Nat) : List AV := List.map noA (ln12N l p)
def ln12St (l : List Sl) (p : Nat) : St := ⟨[.any, .any, .any, .mp 1, .any, .any, .any, .any, .vsl 2 0 (ln12E l).length, .int .i64 (ln12E l).length, .int .i64 p, .any, .any, .any, .any, .any, .any, .any, .any, .any, .any], [some ⟨false, 58, 7, true, l.map slE⟩, some ⟨true, 83, 0, true, ln12K l p⟩, some ⟨true, 29, 6, true, ln12E l⟩]⟩
def ln12M0 : Modes := ⟨[0, 0, 0, 1, 0, 0, 0, 0, 1, 1, 2, 0, 0, 0, 0, 0, 0, 0, 0, 0, 0], [], [], [], []⟩
def ln12M : Modes := ⟨[0, 0, 0, 1, 0, 0, 0, 0, 1, 1, 1, 0, 0, 0, 0, 0, 0, 0, 0, 0, 0], [], [], [], []⟩
def ln12M' : Modes := ⟨[0, 0, 0, 1, 0, 0, 0, 0, 0, 0, 0, 0, 0, 0, 0, 0, 0, 0, 0, 0, 0], [], [], [], []⟩
def ln12H (l : List Sl) : List Hint := [.nm (ln12E l), .linv _ 0 (ln12St l) (fun p => p ≤ (ensS l).length) (fun p => (ensS l).length + 1 - p) ln12M0 ln12M ln12M' (fun _ => [.cell (.int .i64 (lnS l l.length))]) fun p =>
  [.fork [.dy, .cell (enE (at' (ensS l) p)), .rows (ln12K l (p + 1)), .nw] []]]

/-- As many lengths as differ. -/
theorem ln_df (l : List Sl) : ∀ i, i ≤ l.length → dfN (((ensS (l.take i)).map En.len).reverse) = lnS l i
  | 0, _ => rfl
  | i + 1, h => by
    have ih := ln_df l i (by omega)
    rw [take_one (show i < l.length from h), ensS_snoc, lnS]
    cases ho : (at' l i).ok with
    | false => rw [if_neg (by simp), if_neg (by simp)]; exact ih
    | true =>
      rw [if_pos rfl, List.map_append, List.reverse_append]
      show dfN ((at' l i).e.len :: ((ensS (l.take i)).map En.len).reverse) = _
      have hm : (at' l i).e.len ∈ ((ensS (l.take i)).map En.len).reverse ↔ knS l i = true := by
        unfold knS ensS
        rw [List.mem_reverse, List.any_eq_true, List.map_map]
        simp only [List.mem_map, List.mem_filter, Function.comp_apply, Bool.and_eq_true, decide_eq_true_eq]
        exact ⟨fun ⟨y, ⟨h1, h2⟩, h3⟩ => ⟨y, h1, h2, h3⟩, fun ⟨y, h1, h2, h3⟩ => ⟨y, ⟨h1, h2⟩, h3⟩⟩
      rw [dfN, ih]
      cases hk : knS l i with
      | true => rw [if_pos (hm.2 hk), if_neg (by simp)]
      | false => rw [if_neg (fun h => by rw [hm.1 h] at hk; cases hk)]; rfl

noncomputable def glens12Cs : List (FuncId × Sx.Spec) := [(35, genSpec [pSl] gentries8F)]

theorem glens12_run (l : List Sl) (r : AV) : run glens12Cs Try.prog 18 [.vsl 0 0 (l.map slE).length] [some ⟨false, (pSl.getD (0, 0)).1, (pSl.getD (0, 0)).2, true, (l.map slE)⟩] (ln12H l) (yields (.v r)) =
    ((0 : Nat) + List.length (List.map slE l) ≤ List.length (List.map slE l) ∧ List.take (List.length (List.map slE l)) (List.drop 0 (List.map slE l)) = List.map slE (deS (List.take (List.length (List.map slE l)) (List.drop 0 (List.map slE l)))) ∧ List.length (deS (List.take (List.length (List.map slE l)) (List.drop 0 (List.map slE l)))) ≤ (1000000 : Nat) ∧ (List.map enE (ensS (deS (List.take (List.length (List.map slE l)) (List.drop 0 (List.map slE l))))) = ln12E l ∧ List.length (List.map enE (ensS (deS (List.take (List.length (List.map slE l)) (List.drop 0 (List.map slE l)))))) = List.length (ln12E l)) ∧ (St.mk [.any, .any, .any, AV.mp ((0 : Nat) + (1 : Nat)), .any, .any, .any, .any, AV.vsl ((0 : Nat) + (1 : Nat) + (1 : Nat)) 0 (List.length (ln12E l)), AV.int IntKind.i64 (↑(List.length (ln12E l)) : Int), AV.int IntKind.i64 0, .any, .any, .any, .any, .any, .any, .any, .any, .any, .any] [some (Blk.mk false (58 : TypeId) 7 true (List.map slE l)), some (Blk.mk true 83 0 true []), some (Blk.mk true (29 : TypeId) 6 true (ln12E l))] = ln12St l 0 ∧ Nat.le 0 (List.length (ensS l))) ∧ ∀ (p : Nat), Nat.le p (List.length (ensS l)) → (Decidable.decide ((↑p : Int) < (↑(List.length (ln12E l)) : Int)) = true → ((0 : Int) ≤ (↑p : Int) ∧ (↑p : Int) < (↑(List.length (ln12E l)) : Int)) ∧ Blk.read Proofs.Try.prog (Blk.mk true (29 : TypeId) 6 true (ln12E l)) 29 ((0 : Nat) + Int.toNat (↑p : Int)) 0 = some (AV.agg [AV.w64 (at' (ensS l) p).1, AV.w64 (at' (ensS l) p).2, AV.w64 (at' (ensS l) p).3, AV.w64 (at' (ensS l) p).4, AV.int IntKind.i64 (at' (ensS l) p).5, AV.int IntKind.i64 (at' (ensS l) p).6]) ∧ mupd 83 (List.map noA (ln12N l p)) (AV.int IntKind.i64 (at' (ensS l) p).5) (AV.agg []) (ln12K l (p + (1 : Nat))) ∧ inRange IntKind.i64 ((↑p : Int) + (1 : Int)) ∧ ∃ (p' : Nat), St.mk [.any, .any, .any, AV.mp ((0 : Nat) + (1 : Nat)), .any, .any, .any, .any, AV.vsl ((0 : Nat) + (1 : Nat) + (1 : Nat)) 0 (List.length (ln12E l)), AV.int IntKind.i64 (↑(List.length (ln12E l)) : Int), AV.int IntKind.i64 ((↑p : Int) + (1 : Int)), .any, .any, .any, .any, .any, .any, .any, .any, .any, .any] [some (Blk.mk false (58 : TypeId) 7 true (List.map slE l)), some (Blk.mk true (nat_lit 83) 0 true (ln12K l (p + (1 : Nat)))), some (Blk.mk true (29 : TypeId) 6 true (ln12E l))] = ln12St l p' ∧ Nat.le p' (List.length (ensS l)) ∧ List.length (ensS l) + (1 : Nat) - p' < List.length (ensS l) + (1 : Nat) - p) ∧ (Decidable.decide ((↑p : Int) < (↑(List.length (ln12E l)) : Int)) = false → mlen 83 (List.map noA (ln12N l p)) (AV.int IntKind.i64 (↑(lnS l (List.length l)) : Int)) ∧ AV.int IntKind.i64 (↑(lnS l (List.length l)) : Int) = r)) := by kernel_rfl

theorem glens12Cs_ok : ∀ e ∈ glens12Cs, SpecOK Try.prog e.1 e.2 := by
  intro e he
  simp only [glens12Cs, List.mem_cons, List.not_mem_nil, or_false] at he
  rcases he with rfl
  · exact gentries8_ok

theorem glens12_ok : SpecOK Try.prog 18 (genSpec [pSl] glens12F) := by
  refine genSpec_ok (run_ok (l := glens12Cs) glens12Cs_ok mixed noNG) fun l R hF => ?_
  unfold glens12F at hF
  split at hF
  · rename_i r_l
    obtain ⟨hr_l, hl, hF⟩ := hF
    generalize deS r_l = l at hr_l hl hF
    subst hr_l
    refine ⟨_, hF, rfl, (ln12H l), ?_⟩
    show run glens12Cs Try.prog _ [.vsl 0 0 (l.map slE).length] [some ⟨false, (pSl.getD (0, 0)).1, (pSl.getD (0, 0)).2, true, (l.map slE)⟩] _ _
    rw [glens12_run]
    have hE : (List.map enE (ensS l)).length = (ensS l).length := List.length_map _
    have hE2 : (ln12E l).length = (ensS l).length := List.length_map _
    have hEl : (ensS l).length ≤ l.length := ensS_length l
    simp only [whole_row, deS_map, zLe, true_and, hl]
    refine ⟨⟨rfl, rfl⟩, ⟨rfl, Nat.zero_le _⟩, ?_⟩
    intro p (hp0 : p ≤ (ensS l).length)
    have i0 : inRange .i64 ((p : Int) + 1) := inR (by omega) (by omega)
    refine ⟨fun hlt => ?_, fun hge => ?_⟩
    · have hp : p < (ensS l).length := by have := of_decide_eq_true hlt; omega
      have B : 0 ≤ (p : Int) ∧ (p : Int) < ((List.map enE (ensS l)).length : Int) := by omega
      refine ⟨B, read_rows B.1 B.2 (en_whole _), ⟨rfl, ln12N l p, (at' (ensS l) p).len, rfl, rfl, rfl, ?_⟩, i0, p + 1, rfl, hp, by omega⟩
      unfold ln12K ln12N
      rw [take_one hp, List.map_append, List.reverse_append]; rfl
    · have hp : p = (ensS l).length := by have := of_decide_eq_false hge; omega
      subst hp
      refine ⟨⟨rfl, ln12N l (ensS l).length, rfl, ?_⟩, trivial⟩
      have := ln_df l l.length (Nat.le_refl _)
      rw [List.take_length] at this
      unfold ln12N
      rw [List.take_length, this]
  · exact hF.elim


end Go.Proofs.Ytlmhnfkbingmdaa.L1
end

section
/-
  Layer 12: all that the laws call is as said, once the program's four calls are.
-/
namespace Go.Proofs.Ytlmhnfkbingmdaa.L1
open Go.Sx Go.Sx.M

theorem awake12Cs_of (hI : SpecOK Try.prog 10 (genSpec [pSl, none] ginsert12F)) (hK : SpecOK Try.prog 17 (genSpec [pSl] gkept12F)) (hL : SpecOK Try.prog 18 (genSpec [pSl] glens12F)) : ∀ e ∈ awake12Cs, SpecOK Try.prog e.1 e.2 := by
  intro e he
  simp only [awake12Cs, List.mem_cons, List.not_mem_nil, or_false] at he
  rcases he with rfl | rfl | rfl | rfl
  · exact slot12_ok
  · exact hI
  · exact hK
  · exact hL

theorem l12Cs_of (hI : SpecOK Try.prog 10 (genSpec [pSl, none] ginsert12F)) (hG : SpecOK Try.prog 15 (genSpec [pSl, none] ggap12F)) (hK : SpecOK Try.prog 17 (genSpec [pSl] gkept12F)) (hL : SpecOK Try.prog 18 (genSpec [pSl] glens12F)) : ∀ e ∈ l12Cs, SpecOK Try.prog e.1 e.2 := by
  intro e he
  simp only [l12Cs, List.mem_cons, List.not_mem_nil, or_false] at he
  rcases he with rfl | rfl | rfl | rfl | rfl | rfl | rfl | rfl | rfl | rfl | rfl | rfl | rfl | rfl | rfl | rfl | rfl | rfl
  · exact awake12_of (awake12Cs_of hI hK hL)
  · exact of8_ok
  · exact one5_ok
  · exact writes12_ok
  · exact same8_ok
  · exact hI
  · exact hG
  · exact hK
  · exact hL
  · exact rinsert12_ok
  · exact rgap12_ok
  · exact rkept12_ok
  · exact rlens12_ok
  · exact eright_ok
  · exact gfree8_ok
  · exact gapply8_ok
  · exact rordered_ok
  · exact rentries8_ok

theorem l12Cs_ok : ∀ e ∈ l12Cs, SpecOK Try.prog e.1 e.2 := l12Cs_of ginsert12_ok ggap12_ok gkept12_ok glens12_ok

end Go.Proofs.Ytlmhnfkbingmdaa.L1
end

