/-
  Texts in one: L1Base L1Ref L1Op L1Mask L1Bit L1Com L1Cmp.
-/
import Derived.Test.YthfgocpejlhanaaSxL
import Derived.Test.YthfgocpejlhanaaMo
import Derived.Test.YthfgocpejlhanaaRows
import Derived.Test.YthfgocpejlhanaaSxM
import Derived.Test.YthfgocpejlhanaaMa

section
/-
  Layer 1: what all of its laws' proofs use.
-/
namespace Go.Proofs.Ythfgocpejlhanaa.L1
open Go.Sx

theorem own : ownKnob Try.prog.godebug = none := by kernel_rfl
theorem laidOut : laidOutB Try.prog = true := by kernel_rfl
theorem noNG : Sx.noNG Try.prog = true := by kernel_rfl
theorem mixed : Fol Try.prog := ⟨by kernel_rfl, maps_ok⟩

theorem none_ok : COK Try.prog false (run [] Try.prog) := run_ok (by simp) mixed noNG

end Go.Proofs.Ythfgocpejlhanaa.L1
end

section
/-
  Layer 1: contracts of the document's own functions Bits and Words.
-/
namespace Go.Proofs.Ythfgocpejlhanaa.L1
open Go.Sx Go.Sx.M

/-- Bits: the 128 bits of an address, from the left. -/
def bitsOf (a b : BitVec 64) : List AV := (List.range 128).map fun k => .bool (bitAt a b k)

def bitsF : List Arg → (Res → Prop) → Prop
  | [.v (.agg [.w64 a, .w64 b])], R => R (.row 4 1 (bitsOf a b))
  | _, _ => False

theorem bits_run (a b : BitVec 64) : run [] Try.prog 32 [.agg [.w64 a, .w64 b]] [] [.loop 3, .loop 65, .loop 65] (yields (.row 4 1 (bitsOf a b))) =
    (128 = (bitsOf a b).length ∧ some (Blk.mk true 4 1 true ((List.range 128).map fun k => .bool (bitDiv a b k))) = some (Blk.mk true 4 1 true (bitsOf a b))) := by
  kernel_rfl

theorem bits_ok : SpecOK Try.prog 32 (genSpec [none] bitsF) := by
  refine genSpec_ok none_ok fun l R hF => ?_
  unfold bitsF at hF
  split at hF
  · rename_i a b
    refine ⟨_, hF, trivial, [.loop 3, .loop 65, .loop 65], ?_⟩
    show run [] Try.prog _ [.agg [.w64 a, .w64 b]] [] [.loop 3, .loop 65, .loop 65] _
    rw [bits_run]
    refine ⟨by simp [bitsOf], ?_⟩
    congr 2
    unfold bitsOf
    apply List.map_congr_left
    intro k hk
    rw [bitDiv_eq (by simpa using hk)]
  · exact hF.elim

end Go.Proofs.Ythfgocpejlhanaa.L1
end

section
/-
  Layer 1: contracts of the document's own functions Op and Mask.
-/
namespace Go.Proofs.Ythfgocpejlhanaa.L1
open Go.Sx Go.Sx.M

theorem rowAt (a b : BitVec 64) {n : Nat} (hn : n < 128) : (bitsOf a b)[n]? = some (.bool (bitAt a b n)) := by
  unfold bitsOf
  rw [List.getElem?_map, List.getElem?_range hn]
  rfl

theorem read_bits {a b : BitVec 64} {k : Int} {v w : Bool} (h0 : 0 ≤ k) (hk : k < 128) (hv : bitAt a b k.toNat = v) : (Blk.mk w 4 1 true (bitsOf a b)).read Try.prog 4 (0 + k.toNat) 0 = some (.bool v) := by
  rw [← hv]
  exact read1 (rowAt a b (by omega)) (by kernel_rfl)

end Go.Proofs.Ythfgocpejlhanaa.L1
end

section
/-
  Layer 1: contracts of the document's and the program's Mask, and of Cut.
-/
namespace Go.Proofs.Ythfgocpejlhanaa.L1
open Go.Sx Go.Sx.M

/-- A word with its first n bits set. -/
def mkW (n : Int) : BitVec 64 := W (fun i => decide ((i : Int) < n)) 64

theorem mkW_msb (n : Int) {i : Nat} (hi : i < 64) : (mkW n).getMsbD i = decide ((i : Int) < n) := W_msb _ hi

theorem bitAt_mk (n : Int) {k : Nat} (hk : k < 128) : bitAt (mkW n) (mkW (n - 64)) k = decide ((k : Int) < n) := by
  unfold bitAt
  split
  · rw [mkW_msb n (by omega)]
  · rw [mkW_msb _ (by omega)]
    congr 1
    apply propext
    omega

def maskF : List Arg → (Res → Prop) → Prop
  | [.v (.int .i64 n)], R => R (.v (.agg [.w64 (mkW n), .w64 (mkW (n - 64))]))
  | _, _ => False

theorem amask_run (n : Int) (r : AV) : run [] Try.prog 38 [.int .i64 n] [] [.nw] (yields (.v r)) =
    (((0 : Int) ≤ if (64 : Int) < if (128 : Int) < if (0 : Int) > n then (0 : Int) else n then (128 : Int) else if (0 : Int) > n then (0 : Int) else n then (64 : Int) else if (128 : Int) < if (0 : Int) > n then (0 : Int) else n then (128 : Int) else if (0 : Int) > n then (0 : Int) else n) ∧ Go.Sx.inRange Go.IntKind.i64 ((if (128 : Int) < if (0 : Int) > n then (0 : Int) else n then (128 : Int) else if (0 : Int) > n then (0 : Int) else n) - if (64 : Int) < if (128 : Int) < if (0 : Int) > n then (0 : Int) else n then (128 : Int) else if (0 : Int) > n then (0 : Int) else n then (64 : Int) else if (128 : Int) < if (0 : Int) > n then (0 : Int) else n then (128 : Int) else if (0 : Int) > n then (0 : Int) else n) ∧ ((0 : Int) ≤ (if (128 : Int) < if (0 : Int) > n then (0 : Int) else n then (128 : Int) else if (0 : Int) > n then (0 : Int) else n) - if (64 : Int) < if (128 : Int) < if (0 : Int) > n then (0 : Int) else n then (128 : Int) else if (0 : Int) > n then (0 : Int) else n then (64 : Int) else if (128 : Int) < if (0 : Int) > n then (0 : Int) else n then (128 : Int) else if (0 : Int) > n then (0 : Int) else n) ∧ Go.Sx.AV.agg (List.map Go.Sx.canon1 (List.take (2 : Nat) (List.drop (0 : Nat) [Go.Sx.AV.w64 (~~~(BitVec.ofInt (64 : Nat) (18446744073709551615 : Int) >>> Int.toNat (if (64 : Int) < if (128 : Int) < if (0 : Int) > n then (0 : Int) else n then (128 : Int) else if (0 : Int) > n then (0 : Int) else n then (64 : Int) else if (128 : Int) < if (0 : Int) > n then (0 : Int) else n then (128 : Int) else if (0 : Int) > n then (0 : Int) else n))), Go.Sx.AV.w64 (~~~(BitVec.ofInt (64 : Nat) (18446744073709551615 : Int) >>> Int.toNat ((if (128 : Int) < if (0 : Int) > n then (0 : Int) else n then (128 : Int) else if (0 : Int) > n then (0 : Int) else n) - if (64 : Int) < if (128 : Int) < if (0 : Int) > n then (0 : Int) else n then (128 : Int) else if (0 : Int) > n then (0 : Int) else n then (64 : Int) else if (128 : Int) < if (0 : Int) > n then (0 : Int) else n then (128 : Int) else if (0 : Int) > n then (0 : Int) else n)))]))) = r) := by kernel_rfl

/-- From 0 to 128. -/
def clamp (n : Int) : Int := max 0 (min n 128)

theorem clamp_eq (n : Int) : (if 128 < (if 0 > n then 0 else n) then 128 else if 0 > n then 0 else n) = clamp n := by
  unfold clamp
  split <;> split <;> omega

theorem top_mk {n : Int} (h0 : 0 ≤ n) : ~~~(BitVec.ofInt 64 18446744073709551615 >>> n.toNat) = mkW n := by
  refine msb_eq fun i hi => ?_
  rw [mkW_msb n hi, BitVec.getMsbD_not, BitVec.getMsbD_ushiftRight, show BitVec.ofInt 64 18446744073709551615 = BitVec.allOnes 64 from by decide, BitVec.getMsbD_allOnes]
  by_cases h : (i : Int) < n
  · simp [h, hi, show i < n.toNat from by omega]
  · simp [h, hi, show ¬ i < n.toNat from by omega]
    omega

theorem mkW_congr {n m : Int} (h : ∀ i : Nat, i < 64 → ((i : Int) < n ↔ (i : Int) < m)) : mkW n = mkW m :=
  msb_eq fun i hi => by rw [mkW_msb _ hi, mkW_msb _ hi]; congr 1; exact propext (h i hi)

theorem amask_ok : SpecOK Try.prog 38 (genSpec [none] maskF) := by
  refine genSpec_ok none_ok fun l R hF => ?_
  unfold maskF at hF
  split at hF
  · rename_i n
    refine ⟨_, hF, rfl, [.nw], ?_⟩
    show run [] Try.prog _ [.int .i64 n] [] _ _
    rw [amask_run]
    simp only [clamp_eq]
    have hc : (if 64 < clamp n then 64 else clamp n) = min (clamp n) 64 := by split <;> omega
    rw [hc]
    have b : 0 ≤ clamp n ∧ clamp n ≤ 128 := by unfold clamp; omega
    refine ⟨by omega, inR (by omega) (by omega), by omega, ?_⟩
    show AV.agg [.w64 _, .w64 _] = _
    rw [top_mk (by omega), top_mk (by omega)]
    rw [show mkW (min (clamp n) 64) = mkW n from mkW_congr fun i hi => by unfold clamp; omega,
      show mkW (clamp n - min (clamp n) 64) = mkW (n - 64) from mkW_congr fun i hi => by unfold clamp; omega]
  · exact hF.elim

noncomputable def cutCs : List (FuncId × Sx.Spec) := [(38, genSpec [none] maskF)]

theorem cutCs_ok : ∀ e ∈ cutCs, SpecOK Try.prog e.1 e.2 := by
  intro e he
  simp only [cutCs, List.mem_cons, List.not_mem_nil, or_false] at he
  rcases he with rfl
  exact amask_ok

def cutF : List Arg → (Res → Prop) → Prop
  | [.v (.agg [.w64 a, .w64 b]), .v (.int .i64 n)], R => R (.v (.agg [.w64 (a &&& mkW n), .w64 (b &&& mkW (n - 64))]))
  | _, _ => False

theorem cut_run (a b : BitVec 64) (n : Int) (r : AV) : run cutCs Try.prog 39 [.agg [.w64 a, .w64 b], .int .i64 n] [] [] (yields (.v r)) =
    (Go.Sx.AV.agg (List.map Go.Sx.canon1 (List.take (2 : Nat) (List.drop (0 : Nat) [Go.Sx.AV.w64 (a &&& Go.Proofs.Ythfgocpejlhanaa.L1.mkW n), Go.Sx.AV.w64 (b &&& Go.Proofs.Ythfgocpejlhanaa.L1.mkW (n - (64 : Int)))]))) = r) := by kernel_rfl

theorem cut_ok : SpecOK Try.prog 39 (genSpec [none, none] cutF) := by
  refine genSpec_ok (run_ok (l := cutCs) cutCs_ok mixed noNG) fun l R hF => ?_
  unfold cutF at hF
  split at hF
  · rename_i a b n
    refine ⟨_, hF, rfl, [], ?_⟩
    show run cutCs Try.prog _ [.agg [.w64 a, .w64 b], .int .i64 n] [] _ _
    rw [cut_run]
    first | rfl | exact ⟨rfl, rfl⟩
  · exact hF.elim

theorem bitAt_cut (a b : BitVec 64) (n : Int) {i : Nat} (hi : i < 128) : bitAt (a &&& mkW n) (b &&& mkW (n - 64)) i = (bitAt a b i && decide ((i : Int) < n)) := by
  rw [← bitAt_mk n hi]
  unfold bitAt
  split <;> rw [BitVec.getMsbD_and]

end Go.Proofs.Ythfgocpejlhanaa.L1
end

section
/-
  Layer 1: contracts of the program's Bit and With.
-/
namespace Go.Proofs.Ythfgocpejlhanaa.L1
open Go.Sx Go.Sx.M

def bitF : List Arg → (Res → Prop) → Prop
  | [.v (.agg [.w64 a, .w64 b]), .v (.int .i64 k)], R => R (.v (.bool (bitZ a b k)))
  | _, _ => False

def withF : List Arg → (Res → Prop) → Prop
  | [.v (.agg [.w64 a, .w64 b]), .v (.int .i64 k), .v (.bool c)], R => R (.v (.agg [.w64 (put a k c), .w64 (put b (k - 64) c)]))
  | _, _ => False

theorem bit_neg (a b : BitVec 64) (k : Int) (r : AV) : run [] Try.prog 29 [.agg [.w64 a, .w64 b], .int .i64 k] [] [.br false] (yields (.v r)) =
    (decide (0 ≤ k) = false ∧ AV.bool false = r) := by kernel_rfl
theorem bit_big (a b : BitVec 64) (k : Int) (r : AV) : run [] Try.prog 29 [.agg [.w64 a, .w64 b], .int .i64 k] [] [.br true, .br true] (yields (.v r)) =
    (decide (0 ≤ k) = true ∧ (!decide (k < 128)) = true ∧ AV.bool false = r) := by kernel_rfl
theorem bit_lo (a b : BitVec 64) (k : Int) (r : AV) : run [] Try.prog 29 [.agg [.w64 a, .w64 b], .int .i64 k] [] [.br true, .br false, .nw, .nw, .ix 0] (yields (.v r)) =
    (decide (0 ≤ k) = true ∧ (!decide (k < 128)) = false ∧ inRange .i64 (k.tdiv 64) ∧ inRange .i64 (63 - k.tmod 64) ∧ 0 ≤ 63 - k.tmod 64 ∧ k.tdiv 64 = ((0 : Nat) : Int) ∧
      AV.bool (a &&& one (63 - k.tmod 64).toNat != BitVec.ofInt 64 0) = r) := by kernel_rfl
theorem bit_hi (a b : BitVec 64) (k : Int) (r : AV) : run [] Try.prog 29 [.agg [.w64 a, .w64 b], .int .i64 k] [] [.br true, .br false, .nw, .nw, .ix 1] (yields (.v r)) =
    (decide (0 ≤ k) = true ∧ (!decide (k < 128)) = false ∧ inRange .i64 (k.tdiv 64) ∧ inRange .i64 (63 - k.tmod 64) ∧ 0 ≤ 63 - k.tmod 64 ∧ k.tdiv 64 = ((1 : Nat) : Int) ∧
      AV.bool (b &&& one (63 - k.tmod 64).toNat != BitVec.ofInt 64 0) = r) := by kernel_rfl

theorem with_neg (a b : BitVec 64) (k : Int) (c : Bool) (r : AV) : run [] Try.prog 41 [.agg [.w64 a, .w64 b], .int .i64 k, .bool c] [] [.br false] (yields (.v r)) =
    (decide (0 ≤ k) = false ∧ AV.agg [.w64 a, .w64 b] = r) := by kernel_rfl
theorem with_big (a b : BitVec 64) (k : Int) (c : Bool) (r : AV) : run [] Try.prog 41 [.agg [.w64 a, .w64 b], .int .i64 k, .bool c] [] [.br true, .br true] (yields (.v r)) =
    (decide (0 ≤ k) = true ∧ (!decide (k < 128)) = true ∧ AV.agg [.w64 a, .w64 b] = r) := by kernel_rfl
theorem with_lo_t (a b : BitVec 64) (k : Int) (r : AV) : run [] Try.prog 41 [.agg [.w64 a, .w64 b], .int .i64 k, .bool true] [] [.br true, .br false, .nw, .nw, .br true, .ix 0, .ix 0] (yields (.v r)) =
    (decide (0 ≤ k) = true ∧ (!decide (k < 128)) = false ∧ inRange .i64 (k.tdiv 64) ∧ inRange .i64 (63 - k.tmod 64) ∧ 0 ≤ 63 - k.tmod 64 ∧ true = true ∧ k.tdiv 64 = ((0 : Nat) : Int) ∧ k.tdiv 64 = ((0 : Nat) : Int) ∧
      AV.agg [.w64 (a ||| one (63 - k.tmod 64).toNat), .w64 b] = r) := by kernel_rfl
theorem with_lo_f (a b : BitVec 64) (k : Int) (r : AV) : run [] Try.prog 41 [.agg [.w64 a, .w64 b], .int .i64 k, .bool false] [] [.br true, .br false, .nw, .nw, .br false, .ix 0, .ix 0] (yields (.v r)) =
    (decide (0 ≤ k) = true ∧ (!decide (k < 128)) = false ∧ inRange .i64 (k.tdiv 64) ∧ inRange .i64 (63 - k.tmod 64) ∧ 0 ≤ 63 - k.tmod 64 ∧ false = false ∧ k.tdiv 64 = ((0 : Nat) : Int) ∧ k.tdiv 64 = ((0 : Nat) : Int) ∧
      AV.agg [.w64 (a &&& ~~~one (63 - k.tmod 64).toNat), .w64 b] = r) := by kernel_rfl
theorem with_hi_t (a b : BitVec 64) (k : Int) (r : AV) : run [] Try.prog 41 [.agg [.w64 a, .w64 b], .int .i64 k, .bool true] [] [.br true, .br false, .nw, .nw, .br true, .ix 1, .ix 1] (yields (.v r)) =
    (decide (0 ≤ k) = true ∧ (!decide (k < 128)) = false ∧ inRange .i64 (k.tdiv 64) ∧ inRange .i64 (63 - k.tmod 64) ∧ 0 ≤ 63 - k.tmod 64 ∧ true = true ∧ k.tdiv 64 = ((1 : Nat) : Int) ∧ k.tdiv 64 = ((1 : Nat) : Int) ∧
      AV.agg [.w64 a, .w64 (b ||| one (63 - k.tmod 64).toNat)] = r) := by kernel_rfl
theorem with_hi_f (a b : BitVec 64) (k : Int) (r : AV) : run [] Try.prog 41 [.agg [.w64 a, .w64 b], .int .i64 k, .bool false] [] [.br true, .br false, .nw, .nw, .br false, .ix 1, .ix 1] (yields (.v r)) =
    (decide (0 ≤ k) = true ∧ (!decide (k < 128)) = false ∧ inRange .i64 (k.tdiv 64) ∧ inRange .i64 (63 - k.tmod 64) ∧ 0 ≤ 63 - k.tmod 64 ∧ false = false ∧ k.tdiv 64 = ((1 : Nat) : Int) ∧ k.tdiv 64 = ((1 : Nat) : Int) ∧
      AV.agg [.w64 a, .w64 (b &&& ~~~one (63 - k.tmod 64).toNat)] = r) := by kernel_rfl

theorem mod_eq {k : Int} (h0 : 0 ≤ k) : k.tmod 64 = k % 64 := Int.tmod_eq_emod_of_nonneg h0
theorem div_eq {k : Int} (h0 : 0 ≤ k) : k.tdiv 64 = k / 64 := Int.tdiv_eq_ediv_of_nonneg h0

theorem bit_ok : SpecOK Try.prog 29 (genSpec [none, none] bitF) := by
  refine genSpec_ok none_ok fun l R hF => ?_
  unfold bitF at hF
  split at hF
  · rename_i a b k
    refine ⟨_, hF, rfl, ?_⟩
    by_cases h0 : 0 ≤ k
    · by_cases h1 : k < 128
      · have e1 : inRange .i64 (k.tdiv 64) := by rw [div_eq h0]; exact inR (by omega) (by omega)
        have e2 : inRange .i64 (63 - k.tmod 64) := by rw [mod_eq h0]; exact inR (by omega) (by omega)
        have e3 : 0 ≤ 63 - k.tmod 64 := by rw [mod_eq h0]; omega
        by_cases h2 : k < 64
        · refine ⟨[.br true, .br false, .nw, .nw, .ix 0], ?_⟩
          show run [] Try.prog _ [.agg [.w64 a, .w64 b], .int .i64 k] [] _ _
          rw [bit_lo]
          refine ⟨by simpa using h0, by simpa using h1, e1, e2, e3, by rw [div_eq h0]; omega, ?_⟩
          congr 1
          rw [bitZ_lo h0 h2, and_one (by rw [mod_eq h0]; omega), BitVec.getMsbD, mod_eq h0]
          rw [show decide (k.toNat < 64) = true from by simp; omega, Bool.true_and]
          congr 1; omega
        · refine ⟨[.br true, .br false, .nw, .nw, .ix 1], ?_⟩
          show run [] Try.prog _ [.agg [.w64 a, .w64 b], .int .i64 k] [] _ _
          rw [bit_hi]
          refine ⟨by simpa using h0, by simpa using h1, e1, e2, e3, by rw [div_eq h0]; omega, ?_⟩
          congr 1
          rw [bitZ_hi (by omega) h1, and_one (by rw [mod_eq h0]; omega), BitVec.getMsbD, mod_eq h0]
          rw [show decide (k.toNat - 64 < 64) = true from by simp; omega, Bool.true_and]
          congr 1; omega
      · refine ⟨[.br true, .br true], ?_⟩
        show run [] Try.prog _ [.agg [.w64 a, .w64 b], .int .i64 k] [] _ _
        rw [bit_big]
        exact ⟨by simpa using h0, by simpa using h1, by rw [bitZ_out (by omega)]⟩
    · refine ⟨[.br false], ?_⟩
      show run [] Try.prog _ [.agg [.w64 a, .w64 b], .int .i64 k] [] _ _
      rw [bit_neg]
      exact ⟨by simpa using h0, by rw [bitZ_out (by omega)]⟩
  · exact hF.elim

theorem with_ok : SpecOK Try.prog 41 (genSpec [none, none, none] withF) := by
  refine genSpec_ok none_ok fun l R hF => ?_
  unfold withF at hF
  split at hF
  · rename_i a b k c
    refine ⟨_, hF, rfl, ?_⟩
    by_cases h0 : 0 ≤ k
    · by_cases h1 : k < 128
      · have e1 : inRange .i64 (k.tdiv 64) := by rw [div_eq h0]; exact inR (by omega) (by omega)
        have e2 : inRange .i64 (63 - k.tmod 64) := by rw [mod_eq h0]; exact inR (by omega) (by omega)
        have e3 : 0 ≤ 63 - k.tmod 64 := by rw [mod_eq h0]; omega
        by_cases h2 : k < 64
        · have e4 : (63 - k.tmod 64).toNat = 63 - k.toNat := by rw [mod_eq h0]; omega
          rw [put_in h0 h2, put_out (by omega)]
          cases c
          · refine ⟨[.br true, .br false, .nw, .nw, .br false, .ix 0, .ix 0], ?_⟩
            show run [] Try.prog _ [.agg [.w64 a, .w64 b], .int .i64 k, .bool _] [] _ _
            rw [with_lo_f]
            refine ⟨by simpa using h0, by simpa using h1, e1, e2, e3, rfl, by rw [div_eq h0]; omega, by rw [div_eq h0]; omega, ?_⟩
            rw [e4]
          · refine ⟨[.br true, .br false, .nw, .nw, .br true, .ix 0, .ix 0], ?_⟩
            show run [] Try.prog _ [.agg [.w64 a, .w64 b], .int .i64 k, .bool _] [] _ _
            rw [with_lo_t]
            refine ⟨by simpa using h0, by simpa using h1, e1, e2, e3, rfl, by rw [div_eq h0]; omega, by rw [div_eq h0]; omega, ?_⟩
            rw [e4]
        · have e4 : (63 - k.tmod 64).toNat = 63 - (k - 64).toNat := by rw [mod_eq h0]; omega
          rw [put_out (a := a) (by omega), put_in (by omega) (by omega)]
          cases c
          · refine ⟨[.br true, .br false, .nw, .nw, .br false, .ix 1, .ix 1], ?_⟩
            show run [] Try.prog _ [.agg [.w64 a, .w64 b], .int .i64 k, .bool _] [] _ _
            rw [with_hi_f]
            refine ⟨by simpa using h0, by simpa using h1, e1, e2, e3, rfl, by rw [div_eq h0]; omega, by rw [div_eq h0]; omega, ?_⟩
            rw [e4]
          · refine ⟨[.br true, .br false, .nw, .nw, .br true, .ix 1, .ix 1], ?_⟩
            show run [] Try.prog _ [.agg [.w64 a, .w64 b], .int .i64 k, .bool _] [] _ _
            rw [with_hi_t]
            refine ⟨by simpa using h0, by simpa using h1, e1, e2, e3, rfl, by rw [div_eq h0]; omega, by rw [div_eq h0]; omega, ?_⟩
            rw [e4]
      · refine ⟨[.br true, .br true], ?_⟩
        show run [] Try.prog _ [.agg [.w64 a, .w64 b], .int .i64 k, .bool _] [] _ _
        rw [with_big]
        exact ⟨by simpa using h0, by simpa using h1, by rw [put_out (by omega), put_out (by omega)]⟩
    · refine ⟨[.br false], ?_⟩
      show run [] Try.prog _ [.agg [.w64 a, .w64 b], .int .i64 k, .bool _] [] _ _
      rw [with_neg]
      exact ⟨by simpa using h0, by rw [put_out (by omega), put_out (by omega)]⟩
  · exact hF.elim

end Go.Proofs.Ythfgocpejlhanaa.L1
end

section
/-
  Layer 1: contracts of LeadingZeros64, and of the document's and the program's Common and Compare.
-/
namespace Go.Proofs.Ythfgocpejlhanaa.L1
open Go.Sx Go.Sx.M

end Go.Proofs.Ythfgocpejlhanaa.L1
end

section
/-
  Layer 1: contracts of the document's and the program's Common and Compare.
-/
namespace Go.Proofs.Ythfgocpejlhanaa.L1
open Go.Sx Go.Sx.M

end Go.Proofs.Ythfgocpejlhanaa.L1
end

