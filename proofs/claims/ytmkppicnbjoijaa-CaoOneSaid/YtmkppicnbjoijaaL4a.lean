/-
  Texts in one: L4A L4B.
-/
import Derived.Test.YtmkppicnbjoijaaL2a
import Derived.Test.YtmkppicnbjoijaaL1a
import Derived.Test.YtmkppicnbjoijaaMa

section
/-
  Layer 4: contracts of the program's words: Right, Of, Match, Covers, Meet, Both, Merge, Free.
-/
namespace Go.Proofs.Ytmkppicnbjoijaa.L1
open Go.Sx Go.Sx.M

theorem mkW_clamp (n : Int) : mkW (clamp n) = mkW n ∧ mkW (clamp n - 64) = mkW (n - 64) :=
  ⟨mkW_congr fun i hi => by unfold clamp; omega, mkW_congr fun i hi => by unfold clamp; omega⟩

def wmatchF : List Arg → (Res → Prop) → Prop
  | [.v (.agg [.w64 v, .w64 w, .w64 m, .w64 n]), .v (.agg [.w64 a, .w64 b])], R => R (.v (.bool (wmB v w m n a b)))
  | _, _ => False

def wmeetF : List Arg → (Res → Prop) → Prop
  | [.v (.agg [.w64 v, .w64 w, .w64 m, .w64 n]), .v (.agg [.w64 c, .w64 d, .w64 p, .w64 q])], R => R (.v (.bool (wtB v w m n c d p q)))
  | _, _ => False

theorem wmeet_run (v w m n c d p q : BitVec 64) (r : AV) : run [] Try.prog 29 [.agg [.w64 v, .w64 w, .w64 m, .w64 n], .agg [.w64 c, .w64 d, .w64 p, .w64 q]] [] [] (yields (.v r)) =
    (Go.Sx.AV.bool ((v ^^^ c) &&& (m &&& p) == BitVec.ofInt (64 : Nat) (0 : Int) && (w ^^^ d) &&& (n &&& q) == BitVec.ofInt (64 : Nat) (0 : Int)) = r) := by kernel_rfl

theorem wmeet_ok : SpecOK Try.prog 29 (genSpec [none, none] wmeetF) := by
  refine genSpec_ok none_ok fun l R hF => ?_
  unfold wmeetF at hF
  split at hF
  · rename_i v w m n c d p q
    refine ⟨_, hF, rfl, [], ?_⟩
    show run [] Try.prog _ [.agg [.w64 v, .w64 w, .w64 m, .w64 n], .agg [.w64 c, .w64 d, .w64 p, .w64 q]] [] _ _
    rw [wmeet_run]
    all_goals rfl
  · exact hF.elim


noncomputable def wbothCs : List (FuncId × Sx.Spec) := [(29, genSpec [none, none] wmeetF)]

theorem wbothCs_ok : ∀ e ∈ wbothCs, SpecOK Try.prog e.1 e.2 := by
  intro e he
  simp only [wbothCs, List.mem_cons, List.not_mem_nil, or_false] at he
  rcases he with rfl
  · exact wmeet_ok

def wrightF : List Arg → (Res → Prop) → Prop
  | [.v (.agg [.w64 v, .w64 w, .w64 m, .w64 n])], R => R (.v (.bool (v &&& m == v && w &&& n == w)))
  | _, _ => False

theorem wright_run (v w m n : BitVec 64) (r : AV) : run [] Try.prog 46 [.agg [.w64 v, .w64 w, .w64 m, .w64 n]] [] [] (yields (.v r)) =
    (Go.Sx.AV.bool (v &&& m == v && w &&& n == w && (m == m && n == n)) = r) := by kernel_rfl

theorem wright_ok : SpecOK Try.prog 46 (genSpec [none] wrightF) := by
  refine genSpec_ok none_ok fun l R hF => ?_
  unfold wrightF at hF
  split at hF
  · rename_i v w m n
    refine ⟨_, hF, rfl, [], ?_⟩
    show run [] Try.prog _ [.agg [.w64 v, .w64 w, .w64 m, .w64 n]] [] _ _
    rw [wright_run]
    simp
  · exact hF.elim


def wofF : List Arg → (Res → Prop) → Prop
  | [.v (.agg [.w64 a, .w64 b, .int .i64 k])], R => R (.v (.agg [.w64 (a &&& mkW k), .w64 (b &&& mkW (k - 64)), .w64 (mkW k), .w64 (mkW (k - 64))]))
  | _, _ => False

noncomputable def wofCs : List (FuncId × Sx.Spec) := [(63, genSpec [none] maskF),
  (45, genSpec [none, none] makeF)]

theorem wof_run (a b : BitVec 64) (k : Int) (r : AV) : run wofCs Try.prog 44 [.agg [.w64 a, .w64 b, .int .i64 k]] [] [] (yields (.v r)) =
    (Go.Sx.AV.agg [Go.Sx.AV.w64 (a &&& Go.Proofs.Ytmkppicnbjoijaa.L1.mkW k), Go.Sx.AV.w64 (b &&& Go.Proofs.Ytmkppicnbjoijaa.L1.mkW (k - (64 : Int))), Go.Sx.AV.w64 (Go.Proofs.Ytmkppicnbjoijaa.L1.mkW (Go.Proofs.Ytmkppicnbjoijaa.L1.clamp k)), Go.Sx.AV.w64 (Go.Proofs.Ytmkppicnbjoijaa.L1.mkW (Go.Proofs.Ytmkppicnbjoijaa.L1.clamp k - (64 : Int)))] = r) := by kernel_rfl

theorem wofCs_ok : ∀ e ∈ wofCs, SpecOK Try.prog e.1 e.2 := by
  intro e he
  simp only [wofCs, List.mem_cons, List.not_mem_nil, or_false] at he
  rcases he with rfl | rfl
  · exact amask_ok
  · exact pmake_ok

theorem wof_ok : SpecOK Try.prog 44 (genSpec [none] wofF) := by
  refine genSpec_ok (run_ok (l := wofCs) wofCs_ok mixed noNG) fun l R hF => ?_
  unfold wofF at hF
  split at hF
  · rename_i a b k
    refine ⟨_, hF, rfl, [], ?_⟩
    show run wofCs Try.prog _ [.agg [.w64 a, .w64 b, .int .i64 k]] [] _ _
    rw [wof_run]
    rw [(mkW_clamp k).1, (mkW_clamp k).2]
  · exact hF.elim


end Go.Proofs.Ytmkppicnbjoijaa.L1
end

section
/-
  Layer 4: contracts of the document's Match, Covers, Meet.
-/
namespace Go.Proofs.Ytmkppicnbjoijaa.L1
open Go.Sx Go.Sx.M

def bx (x y : BitVec 64) : Option Blk := some ⟨true, 4, 1, true, bitsOf x y⟩

def wtSt (v w m n c d p q : BitVec 64) (k : Nat) : St :=
  ⟨[.any, .any, .any, .any, .lit (.bool false), .slice 2 0 128 false, .slice 3 0 128 false, .slice 4 0 128 false, .slice 5 0 128 false, .int .i64 k, .any, .any, .any, .any, .any, .any, .any, .any, .any, .any, .any, .any, .any, .any, .any, .any, .any, .any, .any, .any, .any, .any, .any, .any, .any, .any, .any, .any, .any, .any, .any, .any, .any, .any, .any, .any, .any], [none, none, bx v w, bx m n, bx c d, bx p q]⟩
def wtM0 : Modes := ⟨[0, 0, 0, 0, 1, 1, 1, 1, 1, 2, 0, 0, 0, 0, 0, 0, 0, 0, 0, 0, 0, 0, 0, 0, 0, 0, 0, 0, 0, 0, 0, 0, 0, 0, 0, 0, 0, 0, 0, 0, 0, 0, 0, 0, 0, 0, 0], [0, 1, 2, 3, 4, 5], [0, 0, 1, 1, 1, 1], [], []⟩
def wtM : Modes := ⟨[0, 0, 0, 0, 1, 1, 1, 1, 1, 1, 0, 0, 0, 0, 0, 0, 0, 0, 0, 0, 0, 0, 0, 0, 0, 0, 0, 0, 0, 0, 0, 0, 0, 0, 0, 0, 0, 0, 0, 0, 0, 0, 0, 0, 0, 0, 0], [0, 1, 2, 3, 4, 5], [0, 0, 1, 1, 1, 1], [], []⟩
def wtI (v w m n c d p q : BitVec 64) (k : Nat) : Prop := k ≤ 128 ∧ ∀ i, i < k → bitAt m n i = true → bitAt p q i = true → bitAt v w i = bitAt c d i
def wtH (v w m n c d p q : BitVec 64) : List Hint := [.linv _ 0 (wtSt v w m n c d p q) (wtI v w m n c d p q) (fun k => 200 - k) wtM0 wtM wtM (fun _ => []) fun k =>
  [.fork [.dy, .cell (.bool (bitAt m n k)), .fork [.dy, .cell (.bool (bitAt p q k)), .fork [.dy, .cell (.bool (bitAt v w k)), .dy, .cell (.bool (bitAt c d k)), .fork [] [.nw]] [.nw]] [.nw]] []]]

noncomputable def rwmatchCs : List (FuncId × Sx.Spec) := [(72, genSpec [none] bitsF)]

theorem rwmatchCs_ok : ∀ e ∈ rwmatchCs, SpecOK Try.prog e.1 e.2 := by
  intro e he
  simp only [rwmatchCs, List.mem_cons, List.not_mem_nil, or_false] at he
  rcases he with rfl
  · exact bits_ok

noncomputable def rwmeetCs : List (FuncId × Sx.Spec) := [(72, genSpec [none] bitsF)]

theorem rwmeet_run (v w m n c d p q : BitVec 64) (r : AV) : run rwmeetCs Try.prog 60 [.agg [.w64 v, .w64 w, .w64 m, .w64 n], .agg [.w64 c, .w64 d, .w64 p, .w64 q]] [] (wtH v w m n c d p q) (yields (.v r)) =
    ((St.mk [.any, .any, .any, .any, AV.lit (Value.bool false), AV.slice ((0 : Nat) + (1 : Nat) + (1 : Nat)) 0 (List.length (bitsOf v w)) false, AV.slice ((0 : Nat) + (1 : Nat) + (1 : Nat) + (1 : Nat)) 0 (List.length (bitsOf m n)) false, AV.slice ((0 : Nat) + (1 : Nat) + (1 : Nat) + (1 : Nat) + (1 : Nat)) 0 (List.length (bitsOf c d)) false, AV.slice ((0 : Nat) + (1 : Nat) + (1 : Nat) + (1 : Nat) + (1 : Nat) + (1 : Nat)) 0 (List.length (bitsOf p q)) false, AV.int IntKind.i64 0, .any, .any, .any, .any, .any, .any, .any, .any, .any, .any, .any, .any, .any, .any, .any, .any, .any, .any, .any, .any, .any, .any, .any, .any, .any, .any, .any, .any, .any, .any, .any, .any, .any, .any, .any, .any, .any] [none, none, some (Blk.mk true (4 : TypeId) 1 true (bitsOf v w)), some (Blk.mk true (4 : TypeId) 1 true (bitsOf m n)), some (Blk.mk true (4 : TypeId) 1 true (bitsOf c d)), some (Blk.mk true (4 : TypeId) 1 true (bitsOf p q))] = wtSt v w m n c d p q 0 ∧ wtI v w m n c d p q 0) ∧ ∀ (p_1 : Nat), wtI v w m n c d p q p_1 → (Decidable.decide ((↑p_1 : Int) < (128 : Int)) = true → ((0 : Int) ≤ (↑p_1 : Int) ∧ (↑p_1 : Int) < (↑(128 : Nat) : Int)) ∧ Blk.read Proofs.Try.prog (Blk.mk true (4 : TypeId) 1 true (bitsOf m n)) 4 ((0 : Nat) + Int.toNat (↑p_1 : Int)) 0 = some (AV.bool (bitAt m n p_1)) ∧ (bitAt m n p_1 = true → ((0 : Int) ≤ (↑p_1 : Int) ∧ (↑p_1 : Int) < (↑(128 : Nat) : Int)) ∧ Blk.read Proofs.Try.prog (Blk.mk true (4 : TypeId) 1 true (bitsOf p q)) 4 ((0 : Nat) + Int.toNat (↑p_1 : Int)) 0 = some (AV.bool (bitAt p q p_1)) ∧ (bitAt p q p_1 = true → ((0 : Int) ≤ (↑p_1 : Int) ∧ (↑p_1 : Int) < (↑(128 : Nat) : Int)) ∧ Blk.read Proofs.Try.prog (Blk.mk true (4 : TypeId) 1 true (bitsOf v w)) 4 ((0 : Nat) + Int.toNat (↑p_1 : Int)) 0 = some (AV.bool (bitAt v w p_1)) ∧ ((0 : Int) ≤ (↑p_1 : Int) ∧ (↑p_1 : Int) < (↑(128 : Nat) : Int)) ∧ Blk.read Proofs.Try.prog (Blk.mk true (4 : TypeId) 1 true (bitsOf c d)) 4 ((0 : Nat) + Int.toNat (↑p_1 : Int)) 0 = some (AV.bool (bitAt c d p_1)) ∧ ((!bitAt v w p_1 == bitAt c d p_1) = true → AV.bool false = r) ∧ ((!bitAt v w p_1 == bitAt c d p_1) = false → inRange IntKind.i64 ((↑p_1 : Int) + (1 : Int)) ∧ ∃ (p' : Nat), St.mk [.any, .any, .any, .any, AV.lit (Value.bool false), AV.slice ((0 : Nat) + (1 : Nat) + (1 : Nat)) 0 128 false, AV.slice ((0 : Nat) + (1 : Nat) + (1 : Nat) + (1 : Nat)) 0 128 false, AV.slice ((0 : Nat) + (1 : Nat) + (1 : Nat) + (1 : Nat) + (1 : Nat)) 0 128 false, AV.slice ((0 : Nat) + (1 : Nat) + (1 : Nat) + (1 : Nat) + (1 : Nat) + (1 : Nat)) 0 128 false, AV.int IntKind.i64 ((↑p_1 : Int) + (1 : Int)), .any, .any, .any, .any, .any, .any, .any, .any, .any, .any, .any, .any, .any, .any, .any, .any, .any, .any, .any, .any, .any, .any, .any, .any, .any, .any, .any, .any, .any, .any, .any, .any, .any, .any, .any, .any, .any] [none, none, some (Blk.mk true (4 : TypeId) 1 true (bitsOf v w)), some (Blk.mk true (4 : TypeId) 1 true (bitsOf m n)), some (Blk.mk true (4 : TypeId) 1 true (bitsOf c d)), some (Blk.mk true (4 : TypeId) 1 true (bitsOf p q))] = wtSt v w m n c d p q p' ∧ wtI v w m n c d p q p' ∧ (200 : Nat) - p' < (200 : Nat) - p_1)) ∧ (bitAt p q p_1 = false → inRange IntKind.i64 ((↑p_1 : Int) + (1 : Int)) ∧ ∃ (p' : Nat), St.mk [.any, .any, .any, .any, AV.lit (Value.bool false), AV.slice ((0 : Nat) + (1 : Nat) + (1 : Nat)) 0 128 false, AV.slice ((0 : Nat) + (1 : Nat) + (1 : Nat) + (1 : Nat)) 0 128 false, AV.slice ((0 : Nat) + (1 : Nat) + (1 : Nat) + (1 : Nat) + (1 : Nat)) 0 128 false, AV.slice ((0 : Nat) + (1 : Nat) + (1 : Nat) + (1 : Nat) + (1 : Nat) + (1 : Nat)) 0 128 false, AV.int IntKind.i64 ((↑p_1 : Int) + (1 : Int)), .any, .any, .any, .any, .any, .any, .any, .any, .any, .any, .any, .any, .any, .any, .any, .any, .any, .any, .any, .any, .any, .any, .any, .any, .any, .any, .any, .any, .any, .any, .any, .any, .any, .any, .any, .any, .any] [none, none, some (Blk.mk true (4 : TypeId) 1 true (bitsOf v w)), some (Blk.mk true (4 : TypeId) 1 true (bitsOf m n)), some (Blk.mk true (4 : TypeId) 1 true (bitsOf c d)), some (Blk.mk true (4 : TypeId) 1 true (bitsOf p q))] = wtSt v w m n c d p q p' ∧ wtI v w m n c d p q p' ∧ (200 : Nat) - p' < (200 : Nat) - p_1)) ∧ (bitAt m n p_1 = false → inRange IntKind.i64 ((↑p_1 : Int) + (1 : Int)) ∧ ∃ (p' : Nat), St.mk [.any, .any, .any, .any, AV.lit (Value.bool false), AV.slice ((0 : Nat) + (1 : Nat) + (1 : Nat)) 0 128 false, AV.slice ((0 : Nat) + (1 : Nat) + (1 : Nat) + (1 : Nat)) 0 128 false, AV.slice ((0 : Nat) + (1 : Nat) + (1 : Nat) + (1 : Nat) + (1 : Nat)) 0 128 false, AV.slice ((0 : Nat) + (1 : Nat) + (1 : Nat) + (1 : Nat) + (1 : Nat) + (1 : Nat)) 0 128 false, AV.int IntKind.i64 ((↑p_1 : Int) + (1 : Int)), .any, .any, .any, .any, .any, .any, .any, .any, .any, .any, .any, .any, .any, .any, .any, .any, .any, .any, .any, .any, .any, .any, .any, .any, .any, .any, .any, .any, .any, .any, .any, .any, .any, .any, .any, .any, .any] [none, none, some (Blk.mk true (4 : TypeId) 1 true (bitsOf v w)), some (Blk.mk true (4 : TypeId) 1 true (bitsOf m n)), some (Blk.mk true (4 : TypeId) 1 true (bitsOf c d)), some (Blk.mk true (4 : TypeId) 1 true (bitsOf p q))] = wtSt v w m n c d p q p' ∧ wtI v w m n c d p q p' ∧ (200 : Nat) - p' < (200 : Nat) - p_1)) ∧ (Decidable.decide ((↑p_1 : Int) < (128 : Int)) = false → AV.bool true = r)) := by kernel_rfl

theorem rwmeetCs_ok : ∀ e ∈ rwmeetCs, SpecOK Try.prog e.1 e.2 := by
  intro e he
  simp only [rwmeetCs, List.mem_cons, List.not_mem_nil, or_false] at he
  rcases he with rfl
  · exact bits_ok

theorem rwmeet_ok : SpecOK Try.prog 60 (genSpec [none, none] wmeetF) := by
  refine genSpec_ok (run_ok (l := rwmeetCs) rwmeetCs_ok mixed noNG) fun l R hF => ?_
  unfold wmeetF at hF
  split at hF
  · rename_i v w m n c d p q
    refine ⟨_, hF, rfl, (wtH v w m n c d p q), ?_⟩
    show run rwmeetCs Try.prog _ [.agg [.w64 v, .w64 w, .w64 m, .w64 n], .agg [.w64 c, .w64 d, .w64 p, .w64 q]] [] _ _
    rw [rwmeet_run]
    refine ⟨⟨rfl, by decide, fun i hi => absurd hi (by omega)⟩, ?_⟩
    rintro k ⟨h1, h2⟩
    refine ⟨fun hlt => ?_, fun hge => ?_⟩
    · have hk : k < 128 := by simp only [decide_eq_true_eq] at hlt; omega
      have nx : (bitAt m n k = true → bitAt p q k = true → bitAt v w k = bitAt c d k) → _ := fun h => (⟨inR (by omega) (by omega), k + 1, rfl, ⟨by omega, up h2 h⟩, by omega⟩ : inRange .i64 ((k : Int) + 1) ∧ ∃ p', wtSt v w m n c d p q (k + 1) = wtSt v w m n c d p q p' ∧ wtI v w m n c d p q p' ∧ 200 - p' < 200 - k)
      refine ⟨by omega, read_bits (by omega) (by omega) rfl, fun hm => ⟨by omega, read_bits (by omega) (by omega) rfl, fun hq => ⟨by omega, read_bits (by omega) (by omega) rfl, by omega, read_bits (by omega) (by omega) rfl, fun hne => ?_, fun he => nx fun _ _ => by simpa using he⟩, fun hq => nx fun _ h => by rw [h] at hq; cases hq⟩, fun hm => nx fun h => by rw [h] at hm; cases hm⟩
      rw [notT wtB_iff fun h => by have := h k hk hm hq; simp [this] at hne]
    · have hk : k = 128 := by simp only [decide_eq_false_iff_not] at hge; omega
      subst hk
      rw [wtB_iff.2 h2]
  · exact hF.elim


end Go.Proofs.Ytmkppicnbjoijaa.L1
end

