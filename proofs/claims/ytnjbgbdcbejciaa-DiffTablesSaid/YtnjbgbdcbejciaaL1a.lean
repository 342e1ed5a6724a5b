/-
  Texts in one: L1Base L1Ref L1Op L1Mask L1Bit L1Com L1Cmp.
-/
import Derived.Test.YtnjbgbdcbejciaaSxL
import Derived.Test.YtnjbgbdcbejciaaMo
import Derived.Test.YtnjbgbdcbejciaaRows
import Derived.Test.YtnjbgbdcbejciaaSxM
import Derived.Test.YtnjbgbdcbejciaaMa

section
/-
  Layer 1: what all of its laws' proofs use.
-/
namespace Go.Proofs.Ytnjbgbdcbejciaa.L1
open Go.Sx

theorem own : ownKnob Try.prog.godebug = none := by kernel_rfl
theorem laidOut : laidOutB Try.prog = true := by kernel_rfl
theorem noNG : Sx.noNG Try.prog = true := by kernel_rfl
theorem mixed : Fol Try.prog := ⟨by kernel_rfl, maps_ok⟩

theorem none_ok : COK Try.prog false (run [] Try.prog) := run_ok (by simp) mixed noNG

end Go.Proofs.Ytnjbgbdcbejciaa.L1
end

section
/-
  Layer 1: contracts of the document's own functions Bits and Words.
-/
namespace Go.Proofs.Ytnjbgbdcbejciaa.L1
open Go.Sx Go.Sx.M

/-- Bits: the 128 bits of an address, from the left. -/
def bitsOf (a b : BitVec 64) : List AV := (List.range 128).map fun k => .bool (bitAt a b k)

def bitsF : List Arg → (Res → Prop) → Prop
  | [.v (.agg [.w64 a, .w64 b])], R => R (.row 4 1 (bitsOf a b))
  | _, _ => False

theorem bits_run (a b : BitVec 64) : run [] Try.prog 82 [.agg [.w64 a, .w64 b]] [] [.loop 3, .loop 65, .loop 65] (yields (.row 4 1 (bitsOf a b))) =
    (128 = (bitsOf a b).length ∧ some (Blk.mk true 4 1 true ((List.range 128).map fun k => .bool (bitDiv a b k))) = some (Blk.mk true 4 1 true (bitsOf a b))) := by
  kernel_rfl

theorem bits_ok : SpecOK Try.prog 82 (genSpec [none] bitsF) := by
  refine genSpec_ok none_ok fun l R hF => ?_
  unfold bitsF at hF
  split at hF
  · rename_i a b
    refine ⟨_, hF, trivial, [.loop 3, .loop 65, .loop 65], ?_⟩
    show run [] Try.prog _ [.agg [.w64 a, .w64 b]] [] [.loop 3, .loop 65, .loop 65] _
    rw [bits_run]
    refine ⟨by simp [bitsOf], ?_⟩
    congr 2
    unfold bitsOf
    apply List.map_congr_left
    intro k hk
    rw [bitDiv_eq (by simpa using hk)]
  · exact hF.elim

end Go.Proofs.Ytnjbgbdcbejciaa.L1
end

section
/-
  Layer 1: contracts of the document's own functions Op and Mask.
-/
namespace Go.Proofs.Ytnjbgbdcbejciaa.L1
open Go.Sx Go.Sx.M

theorem rowAt (a b : BitVec 64) {n : Nat} (hn : n < 128) : (bitsOf a b)[n]? = some (.bool (bitAt a b n)) := by
  unfold bitsOf
  rw [List.getElem?_map, List.getElem?_range hn]
  rfl

theorem read_bits {a b : BitVec 64} {k : Int} {v w : Bool} (h0 : 0 ≤ k) (hk : k < 128) (hv : bitAt a b k.toNat = v) : (Blk.mk w 4 1 true (bitsOf a b)).read Try.prog 4 (0 + k.toNat) 0 = some (.bool v) := by
  rw [← hv]
  exact read1 (rowAt a b (by omega)) (by kernel_rfl)

end Go.Proofs.Ytnjbgbdcbejciaa.L1
end

section
/-
  Layer 1: contracts of the document's and the program's Mask, and of Cut.
-/
namespace Go.Proofs.Ytnjbgbdcbejciaa.L1
open Go.Sx Go.Sx.M

/-- A word with its first n bits set. -/
def mkW (n : Int) : BitVec 64 := W (fun i => decide ((i : Int) < n)) 64

theorem mkW_msb (n : Int) {i : Nat} (hi : i < 64) : (mkW n).getMsbD i = decide ((i : Int) < n) := W_msb _ hi

theorem bitAt_mk (n : Int) {k : Nat} (hk : k < 128) : bitAt (mkW n) (mkW (n - 64)) k = decide ((k : Int) < n) := by
  unfold bitAt
  split
  · rw [mkW_msb n (by omega)]
  · rw [mkW_msb _ (by omega)]
    congr 1
    apply propext
    omega

def maskF : List Arg → (Res → Prop) → Prop
  | [.v (.int .i64 n)], R => R (.v (.agg [.w64 (mkW n), .w64 (mkW (n - 64))]))
  | _, _ => False

theorem amask_run (n : Int) (r : AV) : run [] Try.prog 102 [.int .i64 n] [] [.nw] (yields (.v r)) =
    (((0 : Int) ≤ if 64 < if 128 < if 0 > n then 0 else n then 128 else if 0 > n then 0 else n then 64 else if 128 < if 0 > n then 0 else n then 128 else if 0 > n then 0 else n) ∧ Go.Sx.inRange Go.IntKind.i64 ((if 128 < if 0 > n then 0 else n then 128 else if 0 > n then 0 else n) - if 64 < if 128 < if 0 > n then 0 else n then 128 else if 0 > n then 0 else n then 64 else if 128 < if 0 > n then 0 else n then 128 else if 0 > n then 0 else n) ∧ ((0 : Int) ≤ (if 128 < if 0 > n then 0 else n then 128 else if 0 > n then 0 else n) - if 64 < if 128 < if 0 > n then 0 else n then 128 else if 0 > n then 0 else n then 64 else if 128 < if 0 > n then 0 else n then 128 else if 0 > n then 0 else n) ∧ Go.Sx.AV.agg (List.map Go.Sx.canon1 (List.take 2 (List.drop 0 [Go.Sx.AV.w64 (~~~(BitVec.ofInt 64 18446744073709551615 >>> Int.toNat (if 64 < if 128 < if 0 > n then 0 else n then 128 else if 0 > n then 0 else n then 64 else if 128 < if 0 > n then 0 else n then 128 else if 0 > n then 0 else n))), Go.Sx.AV.w64 (~~~(BitVec.ofInt 64 18446744073709551615 >>> Int.toNat ((if 128 < if 0 > n then 0 else n then 128 else if 0 > n then 0 else n) - if 64 < if 128 < if 0 > n then 0 else n then 128 else if 0 > n then 0 else n then 64 else if 128 < if 0 > n then 0 else n then 128 else if 0 > n then 0 else n)))]))) = r) := by kernel_rfl

/-- From 0 to 128. -/
def clamp (n : Int) : Int := max 0 (min n 128)

theorem clamp_eq (n : Int) : (if 128 < (if 0 > n then 0 else n) then 128 else if 0 > n then 0 else n) = clamp n := by
  unfold clamp
  split <;> split <;> omega

theorem top_mk {n : Int} (h0 : 0 ≤ n) : ~~~(BitVec.ofInt 64 18446744073709551615 >>> n.toNat) = mkW n := by
  refine msb_eq fun i hi => ?_
  rw [mkW_msb n hi, BitVec.getMsbD_not, BitVec.getMsbD_ushiftRight, show BitVec.ofInt 64 18446744073709551615 = BitVec.allOnes 64 from by decide, BitVec.getMsbD_allOnes]
  by_cases h : (i : Int) < n
  · simp [h, hi, show i < n.toNat from by omega]
  · simp [h, hi, show ¬ i < n.toNat from by omega]
    omega

theorem mkW_congr {n m : Int} (h : ∀ i : Nat, i < 64 → ((i : Int) < n ↔ (i : Int) < m)) : mkW n = mkW m :=
  msb_eq fun i hi => by rw [mkW_msb _ hi, mkW_msb _ hi]; congr 1; exact propext (h i hi)

theorem amask_ok : SpecOK Try.prog 102 (genSpec [none] maskF) := by
  refine genSpec_ok none_ok fun l R hF => ?_
  unfold maskF at hF
  split at hF
  · rename_i n
    refine ⟨_, hF, rfl, [.nw], ?_⟩
    show run [] Try.prog _ [.int .i64 n] [] _ _
    rw [amask_run]
    simp only [clamp_eq]
    have hc : (if 64 < clamp n then 64 else clamp n) = min (clamp n) 64 := by split <;> omega
    rw [hc]
    have b : 0 ≤ clamp n ∧ clamp n ≤ 128 := by unfold clamp; omega
    refine ⟨by omega, inR (by omega) (by omega), by omega, ?_⟩
    show AV.agg [.w64 _, .w64 _] = _
    rw [top_mk (by omega), top_mk (by omega)]
    rw [show mkW (min (clamp n) 64) = mkW n from mkW_congr fun i hi => by unfold clamp; omega,
      show mkW (clamp n - min (clamp n) 64) = mkW (n - 64) from mkW_congr fun i hi => by unfold clamp; omega]
  · exact hF.elim

noncomputable def cutCs : List (FuncId × Sx.Spec) := [(102, genSpec [none] maskF)]

theorem cutCs_ok : ∀ e ∈ cutCs, SpecOK Try.prog e.1 e.2 := by
  intro e he
  simp only [cutCs, List.mem_cons, List.not_mem_nil, or_false] at he
  rcases he with rfl
  exact amask_ok

def cutF : List Arg → (Res → Prop) → Prop
  | [.v (.agg [.w64 a, .w64 b]), .v (.int .i64 n)], R => R (.v (.agg [.w64 (a &&& mkW n), .w64 (b &&& mkW (n - 64))]))
  | _, _ => False

theorem cut_run (a b : BitVec 64) (n : Int) (r : AV) : run cutCs Try.prog 72 [.agg [.w64 a, .w64 b], .int .i64 n] [] [] (yields (.v r)) =
    (Go.Sx.AV.agg (List.map Go.Sx.canon1 (List.take (2 : Nat) (List.drop (0 : Nat) [Go.Sx.AV.w64 (a &&& Go.Proofs.Ytnjbgbdcbejciaa.L1.mkW n), Go.Sx.AV.w64 (b &&& Go.Proofs.Ytnjbgbdcbejciaa.L1.mkW (n - (64 : Int)))]))) = r) := by kernel_rfl

theorem cut_ok : SpecOK Try.prog 72 (genSpec [none, none] cutF) := by
  refine genSpec_ok (run_ok (l := cutCs) cutCs_ok mixed noNG) fun l R hF => ?_
  unfold cutF at hF
  split at hF
  · rename_i a b n
    refine ⟨_, hF, rfl, [], ?_⟩
    show run cutCs Try.prog _ [.agg [.w64 a, .w64 b], .int .i64 n] [] _ _
    rw [cut_run]
    first | rfl | exact ⟨rfl, rfl⟩
  · exact hF.elim

theorem bitAt_cut (a b : BitVec 64) (n : Int) {i : Nat} (hi : i < 128) : bitAt (a &&& mkW n) (b &&& mkW (n - 64)) i = (bitAt a b i && decide ((i : Int) < n)) := by
  rw [← bitAt_mk n hi]
  unfold bitAt
  split <;> rw [BitVec.getMsbD_and]

theorem cut_iff {a b c d : BitVec 64} {n : Int} : (a &&& mkW n == c &&& mkW n && b &&& mkW (n - 64) == d &&& mkW (n - 64)) = true ↔ ∀ i : Nat, i < 128 → (i : Int) < n → bitAt a b i = bitAt c d i := by
  rw [Bool.and_eq_true, beq_iff_eq, beq_iff_eq]
  refine ⟨fun ⟨h1, h2⟩ i hi hn => ?_, fun h => bitAt_eq fun i hi => ?_⟩
  · have e1 := bitAt_cut a b n hi
    have e2 := bitAt_cut c d n hi
    rw [decide_eq_true hn, Bool.and_true] at e1 e2
    rw [← e1, ← e2, h1, h2]
  · rw [bitAt_cut a b n hi, bitAt_cut c d n hi]
    by_cases hn : (i : Int) < n
    · rw [h i hi hn]
    · rw [decide_eq_false hn, Bool.and_false, Bool.and_false]

theorem cut_self {a b : BitVec 64} {n : Int} : (a &&& mkW n == a && b &&& mkW (n - 64) == b) = true ↔ ∀ i : Nat, i < 128 → n ≤ (i : Int) → bitAt a b i = false := by
  rw [Bool.and_eq_true, beq_iff_eq, beq_iff_eq]
  refine ⟨fun ⟨h1, h2⟩ i hi hn => ?_, fun h => bitAt_eq fun i hi => ?_⟩
  · have e1 := bitAt_cut a b n hi
    rw [h1, h2, decide_eq_false (by omega), Bool.and_false] at e1
    exact e1
  · rw [bitAt_cut a b n hi]
    by_cases hn : (i : Int) < n
    · rw [decide_eq_true hn, Bool.and_true]
    · rw [decide_eq_false hn, Bool.and_false, h i hi (by omega)]

end Go.Proofs.Ytnjbgbdcbejciaa.L1
end

section
/-
  Layer 1: contracts of the program's Bit and With.
-/
namespace Go.Proofs.Ytnjbgbdcbejciaa.L1
open Go.Sx Go.Sx.M

end Go.Proofs.Ytnjbgbdcbejciaa.L1
end

section
/-
  Layer 1: contracts of LeadingZeros64, and of the document's and the program's Common and Compare.
-/
namespace Go.Proofs.Ytnjbgbdcbejciaa.L1
open Go.Sx Go.Sx.M

end Go.Proofs.Ytnjbgbdcbejciaa.L1
end

section
/-
  Layer 1: contracts of the document's and the program's Common and Compare.
-/
namespace Go.Proofs.Ytnjbgbdcbejciaa.L1
open Go.Sx Go.Sx.M

def comSt (a b c d : BitVec 64) (p : Nat) : St :=
  ⟨[.any, .any, .any, .any, .any, .slice 2 0 128 false, .slice 3 0 128 false, .int .i64 p, .any, .any, .any, .any, .any, .any, .any, .any, .any, .any, .any, .any, .any, .any, .any, .any, .any, .any, .any, .any],
   [none, none, some ⟨true, 4, 1, true, bitsOf a b⟩, some ⟨true, 4, 1, true, bitsOf c d⟩]⟩

def comM0 : Modes := ⟨[0, 0, 0, 0, 0, 1, 1, 2, 0, 0, 0, 0, 0, 0, 0, 0, 0, 0, 0, 0, 0, 0, 0, 0, 0, 0, 0, 0], [0, 1, 2, 3], [0, 0, 1, 1], [], []⟩
def comM : Modes := ⟨[0, 0, 0, 0, 0, 1, 1, 1, 0, 0, 0, 0, 0, 0, 0, 0, 0, 0, 0, 0, 0, 0, 0, 0, 0, 0, 0, 0], [0, 1, 2, 3], [0, 0, 1, 1], [], []⟩

def comI (a b c d : BitVec 64) (p : Nat) : Prop := p ≤ 128 ∧ ∀ i, i < p → bitAt a b i = bitAt c d i

def comH (a b c d : BitVec 64) : List Hint := [.linv _ 0 (comSt a b c d) (comI a b c d) (fun p => 200 - p) comM0 comM comM (fun _ => []) fun p =>
  [.fork [.dy, .cell (.bool (bitAt a b p)), .dy, .cell (.bool (bitAt c d p)), .fork [.nw] []] [.br false]]]

noncomputable def comCs : List (FuncId × Sx.Spec) := [(82, genSpec [none] bitsF)]

theorem com_run (a b c d : BitVec 64) (r : AV) : run comCs Try.prog 121 [.agg [.w64 a, .w64 b], .agg [.w64 c, .w64 d]] [] (comH a b c d) (yields (.v r)) =
    ((St.mk [.any, .any, .any, .any, .any, AV.slice ((0 : Nat) + (1 : Nat) + (1 : Nat)) 0 (List.length (bitsOf a b)) false, AV.slice ((0 : Nat) + (1 : Nat) + (1 : Nat) + (1 : Nat)) 0 (List.length (bitsOf c d)) false, AV.int IntKind.i64 0, .any, .any, .any, .any, .any, .any, .any, .any, .any, .any, .any, .any, .any, .any, .any, .any, .any, .any, .any, .any] [none, none, some (Blk.mk true (4 : TypeId) 1 true (bitsOf a b)), some (Blk.mk true (4 : TypeId) 1 true (bitsOf c d))] = comSt a b c d 0 ∧ comI a b c d 0) ∧ ∀ (p : Nat), comI a b c d p → (Decidable.decide ((↑p : Int) < (128 : Int)) = true → ((0 : Int) ≤ (↑p : Int) ∧ (↑p : Int) < (↑(128 : Nat) : Int)) ∧ Blk.read Proofs.Try.prog (Blk.mk true (4 : TypeId) 1 true (bitsOf a b)) 4 ((0 : Nat) + Int.toNat (↑p : Int)) 0 = some (AV.bool (bitAt a b p)) ∧ ((0 : Int) ≤ (↑p : Int) ∧ (↑p : Int) < (↑(128 : Nat) : Int)) ∧ Blk.read Proofs.Try.prog (Blk.mk true (4 : TypeId) 1 true (bitsOf c d)) 4 ((0 : Nat) + Int.toNat (↑p : Int)) 0 = some (AV.bool (bitAt c d p)) ∧ ((bitAt a b p == bitAt c d p) = true → inRange IntKind.i64 ((↑p : Int) + (1 : Int)) ∧ ∃ (p' : Nat), St.mk [.any, .any, .any, .any, .any, AV.slice ((0 : Nat) + (1 : Nat) + (1 : Nat)) 0 128 false, AV.slice ((0 : Nat) + (1 : Nat) + (1 : Nat) + (1 : Nat)) 0 128 false, AV.int IntKind.i64 ((↑p : Int) + (1 : Int)), .any, .any, .any, .any, .any, .any, .any, .any, .any, .any, .any, .any, .any, .any, .any, .any, .any, .any, .any, .any] [none, none, some (Blk.mk true (4 : TypeId) 1 true (bitsOf a b)), some (Blk.mk true (4 : TypeId) 1 true (bitsOf c d))] = comSt a b c d p' ∧ comI a b c d p' ∧ (200 : Nat) - p' < (200 : Nat) - p) ∧ ((bitAt a b p == bitAt c d p) = false → AV.int IntKind.i64 (↑p : Int) = r)) ∧ (Decidable.decide ((↑p : Int) < (128 : Int)) = false → AV.int IntKind.i64 (↑p : Int) = r)) := by kernel_rfl

def comF : List Arg → (Res → Prop) → Prop
  | [.v (.agg [.w64 a, .w64 b]), .v (.agg [.w64 c, .w64 d])], R => R (.v (.int .i64 (com (bitAt a b) (bitAt c d) : Nat)))
  | _, _ => False

noncomputable def cmpCs : List (FuncId × Sx.Spec) := [(82, genSpec [none] bitsF), (121, genSpec [none, none] comF)]

theorem cmp_run (a b c d : BitVec 64) (r : AV) : run cmpCs Try.prog 99 [.agg [.w64 a, .w64 b], .agg [.w64 c, .w64 d]] [] [.fork [] [.dy, .cell (.bool (bitAt c d (com (bitAt a b) (bitAt c d)))), .fork [] []]] (yields (.v r)) =
    ((((↑(com (bitAt a b) (bitAt c d)) : Int) == (128 : Int)) = true → AV.int IntKind.i64 (0 : Int) = r) ∧ (((↑(com (bitAt a b) (bitAt c d)) : Int) == (128 : Int)) = false → ((0 : Int) ≤ (↑(com (bitAt a b) (bitAt c d)) : Int) ∧ (↑(com (bitAt a b) (bitAt c d)) : Int) < (↑(List.length (bitsOf c d)) : Int)) ∧ Blk.read Proofs.Try.prog (Blk.mk true (4 : TypeId) (1 : Nat) true (bitsOf c d)) (4 : Nat) ((0 : Nat) + Int.toNat (↑(com (bitAt a b) (bitAt c d)) : Int)) (0 : Nat) = some (AV.bool (bitAt c d (com (bitAt a b) (bitAt c d)))) ∧ (bitAt c d (com (bitAt a b) (bitAt c d)) = true → AV.int IntKind.i64 (-1 : Int) = r) ∧ (bitAt c d (com (bitAt a b) (bitAt c d)) = false → AV.int IntKind.i64 (1 : Int) = r))) := by kernel_rfl

theorem acmp_run (a b c d : BitVec 64) (r : AV) : run [] Try.prog 98 [.agg [.w64 a, .w64 b], .agg [.w64 c, .w64 d]] [] [.fork [.br false, .br false, .fork [] [.fork [] []]] [.br false, .br false, .fork [] [.fork [] []]]] (yields (.v r)) =
    (((a != c) = true → (a != a) = false ∧ (c != c) = false ∧ (Decidable.decide (a < c) = true → AV.int IntKind.i64 (-1 : Int) = r) ∧ (Decidable.decide (a < c) = false → (Decidable.decide (c < a) = true → AV.int IntKind.i64 (1 : Int) = r) ∧ (Decidable.decide (c < a) = false → AV.int IntKind.i64 (0 : Int) = r))) ∧ ((a != c) = false → (b != b) = false ∧ (d != d) = false ∧ (Decidable.decide (b < d) = true → AV.int IntKind.i64 (-1 : Int) = r) ∧ (Decidable.decide (b < d) = false → (Decidable.decide (d < b) = true → AV.int IntKind.i64 (1 : Int) = r) ∧ (Decidable.decide (d < b) = false → AV.int IntKind.i64 (0 : Int) = r)))) := by kernel_rfl

theorem comCs_ok : ∀ e ∈ comCs, SpecOK Try.prog e.1 e.2 := by
  intro e he
  simp only [comCs, List.mem_cons, List.not_mem_nil, or_false] at he
  rcases he with rfl
  exact bits_ok

theorem com_ok : SpecOK Try.prog 121 (genSpec [none, none] comF) := by
  refine genSpec_ok (run_ok (l := comCs) comCs_ok mixed noNG) fun l R hF => ?_
  unfold comF at hF
  split at hF
  · rename_i a b c d
    refine ⟨_, hF, rfl, comH a b c d, ?_⟩
    show run comCs Try.prog _ [.agg [.w64 a, .w64 b], .agg [.w64 c, .w64 d]] [] _ _
    rw [com_run]
    refine ⟨⟨rfl, by decide, fun i hi => absurd hi (by omega)⟩, ?_⟩
    rintro p ⟨h1, h2⟩
    refine ⟨fun hlt => ?_, fun hge => ?_⟩
    · have hp : p < 128 := by simp only [decide_eq_true_eq] at hlt; omega
      refine ⟨by omega, read_bits (by omega) (by omega) rfl, by omega, read_bits (by omega) (by omega) rfl, fun he => ?_, fun he => ?_⟩
      · refine ⟨inR (by omega) (by omega), p + 1, rfl, ⟨by omega, fun i hi => ?_⟩, by omega⟩
        rcases Nat.lt_or_eq_of_le (Nat.le_of_lt_succ hi) with h | rfl
        · exact h2 i h
        · simpa using he
      · have : p = com (bitAt a b) (bitAt c d) := IsCom.uniq (f := bitAt a b) (g := bitAt c d) ⟨h1, h2, fun _ => by simpa using he⟩ (com_spec _ _)
        rw [this]
    · have hp : p = 128 := by simp only [decide_eq_false_iff_not] at hge; omega
      have : p = com (bitAt a b) (bitAt c d) := IsCom.uniq (f := bitAt a b) (g := bitAt c d) ⟨h1, h2, fun h => by omega⟩ (com_spec _ _)
      rw [this]
  · exact hF.elim

def cmpF : List Arg → (Res → Prop) → Prop
  | [.v (.agg [.w64 a, .w64 b]), .v (.agg [.w64 c, .w64 d])], R => R (.v (.int .i64 (cmpV (V a b) (V c d))))
  | _, _ => False

theorem cmpCs_ok : ∀ e ∈ cmpCs, SpecOK Try.prog e.1 e.2 := by
  intro e he
  simp only [cmpCs, List.mem_cons, List.not_mem_nil, or_false] at he
  rcases he with rfl | rfl
  · exact bits_ok
  · exact com_ok

theorem cmp_ok : SpecOK Try.prog 99 (genSpec [none, none] cmpF) := by
  refine genSpec_ok (run_ok (l := cmpCs) cmpCs_ok mixed noNG) fun l R hF => ?_
  unfold cmpF at hF
  split at hF
  · rename_i a b c d
    refine ⟨_, hF, rfl, [.fork [] [.dy, .cell (.bool (bitAt c d (com (bitAt a b) (bitAt c d)))), .fork [] []]], ?_⟩
    show run cmpCs Try.prog _ [.agg [.w64 a, .w64 b], .agg [.w64 c, .w64 d]] [] _ _
    rw [cmp_run, com_cmp]
    have hle := (com_spec (bitAt a b) (bitAt c d)).le
    refine ⟨fun h => ?_, fun h => ?_⟩
    · have : com (bitAt a b) (bitAt c d) = 128 := by simp only [beq_iff_eq] at h; omega
      rw [if_pos this]
    · have hne : com (bitAt a b) (bitAt c d) ≠ 128 := by simp only [beq_eq_false_iff_ne, ne_eq] at h; omega
      rw [if_neg hne]
      refine ⟨⟨by omega, by simp only [bitsOf, List.length_map, List.length_range]; omega⟩, read_bits (by omega) (by omega) rfl, fun hb => ?_, fun hb => ?_⟩
      · rw [if_pos hb]
      · rw [if_neg (by rw [hb]; simp)]
  · exact hF.elim

theorem acmp_ok : SpecOK Try.prog 98 (genSpec [none, none] cmpF) := by
  refine genSpec_ok none_ok fun l R hF => ?_
  unfold cmpF at hF
  split at hF
  · rename_i a b c d
    refine ⟨_, hF, rfl, [.fork [.br false, .br false, .fork [] [.fork [] []]] [.br false, .br false, .fork [] [.fork [] []]]], ?_⟩
    show run [] Try.prog _ [.agg [.w64 a, .w64 b], .agg [.w64 c, .w64 d]] [] _ _
    rw [acmp_run]
    have hb := b.isLt
    have hd := d.isLt
    have self : ∀ x : BitVec 64, (x != x) = false := fun x => by simp
    refine ⟨fun h => ⟨self a, self c, fun h1 => ?_, fun h1 => ⟨fun h2 => ?_, fun h2 => ?_⟩⟩, fun h => ⟨self b, self d, fun h1 => ?_, fun h1 => ⟨fun h2 => ?_, fun h2 => ?_⟩⟩⟩
    all_goals
      simp only [bne_iff_ne, ne_eq, decide_eq_true_eq, decide_eq_false_iff_not, BitVec.lt_def, ← BitVec.toNat_inj, bne_eq_false_iff_eq] at *
      congr 1
      unfold cmpV V
    · rw [if_neg (by omega), if_pos (by omega)]
    · rw [if_neg (by omega), if_neg (by omega)]
    · omega
    · rw [if_neg (by omega), if_pos (by omega)]
    · rw [if_neg (by omega), if_neg (by omega)]
    · rw [if_pos (by omega)]
  · exact hF.elim

end Go.Proofs.Ytnjbgbdcbejciaa.L1
end

