/-
  Texts in one: L4A L4B.
-/
import Derived.Test.YtcabofadpheomaaL2a
import Derived.Test.YtcabofadpheomaaL1a
import Derived.Test.YtcabofadpheomaaMa

section
/-
  Layer 4: contracts of the program's words: Right, Of, Match, Covers, Meet, Both, Merge, Free.
-/
namespace Go.Proofs.Ytcabofadpheomaa.L1
open Go.Sx Go.Sx.M

theorem mkW_clamp (n : Int) : mkW (clamp n) = mkW n ∧ mkW (clamp n - 64) = mkW (n - 64) :=
  ⟨mkW_congr fun i hi => by unfold clamp; omega, mkW_congr fun i hi => by unfold clamp; omega⟩

def wmatchF : List Arg → (Res → Prop) → Prop
  | [.v (.agg [.w64 v, .w64 w, .w64 m, .w64 n]), .v (.agg [.w64 a, .w64 b])], R => R (.v (.bool (wmB v w m n a b)))
  | _, _ => False

theorem wmatch_run (v w m n a b : BitVec 64) (r : AV) : run [] Try.prog 67 [.agg [.w64 v, .w64 w, .w64 m, .w64 n], .agg [.w64 a, .w64 b]] [] [] (yields (.v r)) =
    (Go.Sx.AV.bool (a &&& m == v &&& m && b &&& n == w &&& n) = r) := by kernel_rfl

theorem wmatch_ok : SpecOK Try.prog 67 (genSpec [none, none] wmatchF) := by
  refine genSpec_ok none_ok fun l R hF => ?_
  unfold wmatchF at hF
  split at hF
  · rename_i v w m n a b
    refine ⟨_, hF, rfl, [], ?_⟩
    show run [] Try.prog _ [.agg [.w64 v, .w64 w, .w64 m, .w64 n], .agg [.w64 a, .w64 b]] [] _ _
    rw [wmatch_run]
    all_goals rfl
  · exact hF.elim


def wmeetF : List Arg → (Res → Prop) → Prop
  | [.v (.agg [.w64 v, .w64 w, .w64 m, .w64 n]), .v (.agg [.w64 c, .w64 d, .w64 p, .w64 q])], R => R (.v (.bool (wtB v w m n c d p q)))
  | _, _ => False

theorem wmeet_run (v w m n c d p q : BitVec 64) (r : AV) : run [] Try.prog 96 [.agg [.w64 v, .w64 w, .w64 m, .w64 n], .agg [.w64 c, .w64 d, .w64 p, .w64 q]] [] [] (yields (.v r)) =
    (Go.Sx.AV.bool ((v ^^^ c) &&& (m &&& p) == BitVec.ofInt (64 : Nat) (0 : Int) && (w ^^^ d) &&& (n &&& q) == BitVec.ofInt (64 : Nat) (0 : Int)) = r) := by kernel_rfl

theorem wmeet_ok : SpecOK Try.prog 96 (genSpec [none, none] wmeetF) := by
  refine genSpec_ok none_ok fun l R hF => ?_
  unfold wmeetF at hF
  split at hF
  · rename_i v w m n c d p q
    refine ⟨_, hF, rfl, [], ?_⟩
    show run [] Try.prog _ [.agg [.w64 v, .w64 w, .w64 m, .w64 n], .agg [.w64 c, .w64 d, .w64 p, .w64 q]] [] _ _
    rw [wmeet_run]
    all_goals rfl
  · exact hF.elim


noncomputable def wbothCs : List (FuncId × Sx.Spec) := [(96, genSpec [none, none] wmeetF)]

theorem wbothCs_ok : ∀ e ∈ wbothCs, SpecOK Try.prog e.1 e.2 := by
  intro e he
  simp only [wbothCs, List.mem_cons, List.not_mem_nil, or_false] at he
  rcases he with rfl
  · exact wmeet_ok

def wrightF : List Arg → (Res → Prop) → Prop
  | [.v (.agg [.w64 v, .w64 w, .w64 m, .w64 n])], R => R (.v (.bool (v &&& m == v && w &&& n == w)))
  | _, _ => False

theorem wright_run (v w m n : BitVec 64) (r : AV) : run [] Try.prog 46 [.agg [.w64 v, .w64 w, .w64 m, .w64 n]] [] [] (yields (.v r)) =
    (Go.Sx.AV.bool (v &&& m == v && w &&& n == w && (m == m && n == n)) = r) := by kernel_rfl

theorem wright_ok : SpecOK Try.prog 46 (genSpec [none] wrightF) := by
  refine genSpec_ok none_ok fun l R hF => ?_
  unfold wrightF at hF
  split at hF
  · rename_i v w m n
    refine ⟨_, hF, rfl, [], ?_⟩
    show run [] Try.prog _ [.agg [.w64 v, .w64 w, .w64 m, .w64 n]] [] _ _
    rw [wright_run]
    simp
  · exact hF.elim


def wofF : List Arg → (Res → Prop) → Prop
  | [.v (.agg [.w64 a, .w64 b, .int .i64 k])], R => R (.v (.agg [.w64 (a &&& mkW k), .w64 (b &&& mkW (k - 64)), .w64 (mkW k), .w64 (mkW (k - 64))]))
  | _, _ => False

noncomputable def wofCs : List (FuncId × Sx.Spec) := [(70, genSpec [none] maskF),
  (47, genSpec [none, none] makeF)]

theorem wof_run (a b : BitVec 64) (k : Int) (r : AV) : run wofCs Try.prog 48 [.agg [.w64 a, .w64 b, .int .i64 k]] [] [] (yields (.v r)) =
    (Go.Sx.AV.agg [Go.Sx.AV.w64 (a &&& Go.Proofs.Ytcabofadpheomaa.L1.mkW k), Go.Sx.AV.w64 (b &&& Go.Proofs.Ytcabofadpheomaa.L1.mkW (k - (64 : Int))), Go.Sx.AV.w64 (Go.Proofs.Ytcabofadpheomaa.L1.mkW (Go.Proofs.Ytcabofadpheomaa.L1.clamp k)), Go.Sx.AV.w64 (Go.Proofs.Ytcabofadpheomaa.L1.mkW (Go.Proofs.Ytcabofadpheomaa.L1.clamp k - (64 : Int)))] = r) := by kernel_rfl

theorem wofCs_ok : ∀ e ∈ wofCs, SpecOK Try.prog e.1 e.2 := by
  intro e he
  simp only [wofCs, List.mem_cons, List.not_mem_nil, or_false] at he
  rcases he with rfl | rfl
  · exact amask_ok
  · exact pmake_ok

theorem wof_ok : SpecOK Try.prog 48 (genSpec [none] wofF) := by
  refine genSpec_ok (run_ok (l := wofCs) wofCs_ok mixed noNG) fun l R hF => ?_
  unfold wofF at hF
  split at hF
  · rename_i a b k
    refine ⟨_, hF, rfl, [], ?_⟩
    show run wofCs Try.prog _ [.agg [.w64 a, .w64 b, .int .i64 k]] [] _ _
    rw [wof_run]
    rw [(mkW_clamp k).1, (mkW_clamp k).2]
  · exact hF.elim


end Go.Proofs.Ytcabofadpheomaa.L1
end

section
/-
  Layer 4: contracts of the document's Match, Covers, Meet.
-/
namespace Go.Proofs.Ytcabofadpheomaa.L1
open Go.Sx Go.Sx.M

def bx (x y : BitVec 64) : Option Blk := some ⟨true, 4, 1, true, bitsOf x y⟩

def wtSt (v w m n c d p q : BitVec 64) (k : Nat) : St :=
  ⟨[.any, .any, .any, .any, .lit (.bool false), .slice 2 0 128 false, .slice 3 0 128 false, .slice 4 0 128 false, .slice 5 0 128 false, .int .i64 k, .any, .any, .any, .any, .any, .any, .any, .any, .any, .any, .any, .any, .any, .any, .any, .any, .any, .any, .any, .any, .any, .any, .any, .any, .any, .any, .any, .any, .any, .any, .any, .any, .any, .any, .any, .any, .any], [none, none, bx v w, bx m n, bx c d, bx p q]⟩
def wtM0 : Modes := ⟨[0, 0, 0, 0, 1, 1, 1, 1, 1, 2, 0, 0, 0, 0, 0, 0, 0, 0, 0, 0, 0, 0, 0, 0, 0, 0, 0, 0, 0, 0, 0, 0, 0, 0, 0, 0, 0, 0, 0, 0, 0, 0, 0, 0, 0, 0, 0], [0, 1, 2, 3, 4, 5], [0, 0, 1, 1, 1, 1], [], []⟩
def wtM : Modes := ⟨[0, 0, 0, 0, 1, 1, 1, 1, 1, 1, 0, 0, 0, 0, 0, 0, 0, 0, 0, 0, 0, 0, 0, 0, 0, 0, 0, 0, 0, 0, 0, 0, 0, 0, 0, 0, 0, 0, 0, 0, 0, 0, 0, 0, 0, 0, 0], [0, 1, 2, 3, 4, 5], [0, 0, 1, 1, 1, 1], [], []⟩
def wtI (v w m n c d p q : BitVec 64) (k : Nat) : Prop := k ≤ 128 ∧ ∀ i, i < k → bitAt m n i = true → bitAt p q i = true → bitAt v w i = bitAt c d i
def wtH (v w m n c d p q : BitVec 64) : List Hint := [.linv _ 0 (wtSt v w m n c d p q) (wtI v w m n c d p q) (fun k => 200 - k) wtM0 wtM wtM (fun _ => []) fun k =>
  [.fork [.dy, .cell (.bool (bitAt m n k)), .fork [.dy, .cell (.bool (bitAt p q k)), .fork [.dy, .cell (.bool (bitAt v w k)), .dy, .cell (.bool (bitAt c d k)), .fork [] [.nw]] [.nw]] [.nw]] []]]

noncomputable def rwmatchCs : List (FuncId × Sx.Spec) := [(71, genSpec [none] bitsF)]

theorem rwmatchCs_ok : ∀ e ∈ rwmatchCs, SpecOK Try.prog e.1 e.2 := by
  intro e he
  simp only [rwmatchCs, List.mem_cons, List.not_mem_nil, or_false] at he
  rcases he with rfl
  · exact bits_ok

noncomputable def rwmeetCs : List (FuncId × Sx.Spec) := [(71, genSpec [none] bitsF)]

theorem rwmeet_run (v w m n c d p q : BitVec 64) (r : AV) : run rwmeetCs Try.prog 84 [.agg [.w64 v, .w64 w, .w64 m, .w64 n], .agg [.w64 c, .w64 d, .w64 p, .w64 q]] [] (wtH v w m n c d p q) (yields (.v r)) =
    (let M := bitsOf p q; let L := bitsOf c d; let K := bitsOf m n; let J := bitsOf v w; let I := (4 : Nat); let H := AV.lit (Value.bool false); let F := AV.bool; let A := (128 : Nat); let z := (200 : Nat); let x := wtSt v w m n c d p q; let t := wtI v w m n c d p q; let k := (0 : Nat); let j := (1 : Nat); let G := AV.slice (k + j + j + j) k; let E := AV.slice (k + j + j + j + j) k; let B := AV.slice (k + j + j + j + j + j) k; let i := AV.any; let h := Blk.mk true (4 : TypeId) j true; let o := [none, none, some (h J), some (h K), some (h L), some (h M)];((St.mk [i, i, i, i, H, AV.slice (k + j + j) k (List.length J) false, G (List.length K) false, E (List.length L) false, B (List.length M) false, AV.int IntKind.i64 (0 : Int), i, i, i, i, i, i, i, i, i, i, i, i, i, i, i, i, i, i, i, i, i, i, i, i, i, i, i, i, i, i, i, i, i, i, i, i, i] o = x k ∧ t k) ∧ ∀ (a : Nat), let D := !bitAt v w a == bitAt c d a; let s := (↑a : Int); let C := Decidable.decide (s < (128 : Int)); let y := k + Int.toNat s; let u := inRange IntKind.i64 (s + (1 : Int)); let l := (0 : Int) ≤ s ∧ s < (↑A : Int); let g := St.mk [i, i, i, i, H, AV.slice (k + j + j) k A false, G A false, E A false, B A false, AV.int IntKind.i64 (s + (1 : Int)), i, i, i, i, i, i, i, i, i, i, i, i, i, i, i, i, i, i, i, i, i, i, i, i, i, i, i, i, i, i, i, i, i, i, i, i, i] o; t a → (C = true → l ∧ Blk.read Proofs.Try.prog (h K) I y k = some (F (bitAt m n a)) ∧ (bitAt m n a = true → l ∧ Blk.read Proofs.Try.prog (h M) I y k = some (F (bitAt p q a)) ∧ (bitAt p q a = true → l ∧ Blk.read Proofs.Try.prog (h J) I y k = some (F (bitAt v w a)) ∧ l ∧ Blk.read Proofs.Try.prog (h L) I y k = some (F (bitAt c d a)) ∧ (D = true → F false = r) ∧ (D = false → u ∧ ∃ (b : Nat), g = x b ∧ t b ∧ z - b < z - a)) ∧ (bitAt p q a = false → u ∧ ∃ (e : Nat), g = x e ∧ t e ∧ z - e < z - a)) ∧ (bitAt m n a = false → u ∧ ∃ (f : Nat), g = x f ∧ t f ∧ z - f < z - a)) ∧ (C = false → F true = r))) := by kernel_rfl

theorem rwmeetCs_ok : ∀ e ∈ rwmeetCs, SpecOK Try.prog e.1 e.2 := by
  intro e he
  simp only [rwmeetCs, List.mem_cons, List.not_mem_nil, or_false] at he
  rcases he with rfl
  · exact bits_ok

theorem rwmeet_ok : SpecOK Try.prog 84 (genSpec [none, none] wmeetF) := by
  refine genSpec_ok (run_ok (l := rwmeetCs) rwmeetCs_ok mixed noNG) fun l R hF => ?_
  unfold wmeetF at hF
  split at hF
  · rename_i v w m n c d p q
    refine ⟨_, hF, rfl, (wtH v w m n c d p q), ?_⟩
    show run rwmeetCs Try.prog _ [.agg [.w64 v, .w64 w, .w64 m, .w64 n], .agg [.w64 c, .w64 d, .w64 p, .w64 q]] [] _ _
    rw [rwmeet_run]; (conv => zeta)
    refine ⟨⟨rfl, by decide, fun i hi => absurd hi (by omega)⟩, ?_⟩
    rintro k ⟨h1, h2⟩
    refine ⟨fun hlt => ?_, fun hge => ?_⟩
    · have hk : k < 128 := by simp only [decide_eq_true_eq] at hlt; omega
      have nx : (bitAt m n k = true → bitAt p q k = true → bitAt v w k = bitAt c d k) → _ := fun h => (⟨inR (by omega) (by omega), k + 1, rfl, ⟨by omega, up h2 h⟩, by omega⟩ : inRange .i64 ((k : Int) + 1) ∧ ∃ p', wtSt v w m n c d p q (k + 1) = wtSt v w m n c d p q p' ∧ wtI v w m n c d p q p' ∧ 200 - p' < 200 - k)
      refine ⟨by omega, read_bits (by omega) (by omega) rfl, fun hm => ⟨by omega, read_bits (by omega) (by omega) rfl, fun hq => ⟨by omega, read_bits (by omega) (by omega) rfl, by omega, read_bits (by omega) (by omega) rfl, fun hne => ?_, fun he => nx fun _ _ => by simpa using he⟩, fun hq => nx fun _ h => by rw [h] at hq; cases hq⟩, fun hm => nx fun h => by rw [h] at hm; cases hm⟩
      rw [notT wtB_iff fun h => by have := h k hk hm hq; simp [this] at hne]
    · have hk : k = 128 := by simp only [decide_eq_false_iff_not] at hge; omega
      subst hk
      rw [wtB_iff.2 h2]
  · exact hF.elim


end Go.Proofs.Ytcabofadpheomaa.L1
end

