/-
  Layer 1: contracts of the document's and the program's Mask, and of Cut.
-/
import Derived.Test.YtffcpblbdfjagaaL1Op
import Derived.Test.YtffcpblbdfjagaaM04
namespace Go.Proofs.Ytffcpblbdfjagaa.L1
open Go.Sx Go.Sx.M

/-- A word with its first n bits set. -/
def mkW (n : Int) : BitVec 64 := W (fun i => decide ((i : Int) < n)) 64

theorem mkW_msb (n : Int) {i : Nat} (hi : i < 64) : (mkW n).getMsbD i = decide ((i : Int) < n) := W_msb _ hi

theorem bitAt_mk (n : Int) {k : Nat} (hk : k < 128) : bitAt (mkW n) (mkW (n - 64)) k = decide ((k : Int) < n) := by
  unfold bitAt
  split
  · rw [mkW_msb n (by omega)]
  · rw [mkW_msb _ (by omega)]
    congr 1
    apply propext
    omega

def maskSt (F : List Bool → List AV) (w : Int) (p : Nat × List Bool) : St :=
  ⟨[.int .i64 w, .any, .ptr 0 0 0 true, .vsl 1 0 p.1, .int .i64 p.1, .any, .any, .any, .any, .any, .any, .any, .any, .any, .any, .any, .any],
   [some ⟨true, 24, 2, true, [.agg [.lit (.int .u64 0), .lit (.int .u64 0)]]⟩, some ⟨true, 4, 1, true, F p.2⟩]⟩

def maskM0 : Modes := ⟨[1, 0, 1, 1, 2, 0, 0, 0, 0, 0, 0, 0, 0, 0, 0, 0, 0], [0], [1], [], [(3, 4, 1)]⟩
def maskM : Modes := ⟨[1, 0, 1, 1, 1, 0, 0, 0, 0, 0, 0, 0, 0, 0, 0, 0, 0], [0, 3], [1, 1], [], []⟩
def maskM' : Modes := ⟨[1, 0, 1, 1, 1, 0, 0, 0, 0, 0, 0, 0, 0, 0, 0, 0, 0], [0, 1], [1, 1], [], []⟩

def maskI (w : Int) (p : Nat × List Bool) : Prop := p.1 ≤ 128 ∧ p.2 = (List.range p.1).map fun (k : Nat) => decide ((k : Int) < w)

def maskH (F : List Bool → List AV) (w : Int) : List Hint := [.linv _ (0, []) (maskSt F w) (maskI w) (fun p => 200 - p.1) maskM0 maskM maskM' (fun _ => []) fun _ => [.fork [.nw] []]]

def maskF : List Arg → (Res → Prop) → Prop
  | [.v (.int .i64 n)], R => R (.v (.agg [.w64 (mkW n), .w64 (mkW (n - 64))]))
  | _, _ => False

theorem amask_run (n : Int) (r : AV) : run [] Try.prog 65 [.int .i64 n] [] [.nw] (yields (.v r)) =
    (((0 : Int) ≤ if (64 : Int) < if (128 : Int) < if (0 : Int) > n then (0 : Int) else n then (128 : Int) else if (0 : Int) > n then (0 : Int) else n then (64 : Int) else if (128 : Int) < if (0 : Int) > n then (0 : Int) else n then (128 : Int) else if (0 : Int) > n then (0 : Int) else n) ∧ Go.Sx.inRange Go.IntKind.i64 ((if (128 : Int) < if (0 : Int) > n then (0 : Int) else n then (128 : Int) else if (0 : Int) > n then (0 : Int) else n) - if (64 : Int) < if (128 : Int) < if (0 : Int) > n then (0 : Int) else n then (128 : Int) else if (0 : Int) > n then (0 : Int) else n then (64 : Int) else if (128 : Int) < if (0 : Int) > n then (0 : Int) else n then (128 : Int) else if (0 : Int) > n then (0 : Int) else n) ∧ ((0 : Int) ≤ (if (128 : Int) < if (0 : Int) > n then (0 : Int) else n then (128 : Int) else if (0 : Int) > n then (0 : Int) else n) - if (64 : Int) < if (128 : Int) < if (0 : Int) > n then (0 : Int) else n then (128 : Int) else if (0 : Int) > n then (0 : Int) else n then (64 : Int) else if (128 : Int) < if (0 : Int) > n then (0 : Int) else n then (128 : Int) else if (0 : Int) > n then (0 : Int) else n) ∧ Go.Sx.AV.agg (List.map Go.Sx.canon1 (List.take (2 : Nat) (List.drop (0 : Nat) [Go.Sx.AV.w64 (~~~(BitVec.ofInt (64 : Nat) (18446744073709551615 : Int) >>> Int.toNat (if (64 : Int) < if (128 : Int) < if (0 : Int) > n then (0 : Int) else n then (128 : Int) else if (0 : Int) > n then (0 : Int) else n then (64 : Int) else if (128 : Int) < if (0 : Int) > n then (0 : Int) else n then (128 : Int) else if (0 : Int) > n then (0 : Int) else n))), Go.Sx.AV.w64 (~~~(BitVec.ofInt (64 : Nat) (18446744073709551615 : Int) >>> Int.toNat ((if (128 : Int) < if (0 : Int) > n then (0 : Int) else n then (128 : Int) else if (0 : Int) > n then (0 : Int) else n) - if (64 : Int) < if (128 : Int) < if (0 : Int) > n then (0 : Int) else n then (128 : Int) else if (0 : Int) > n then (0 : Int) else n then (64 : Int) else if (128 : Int) < if (0 : Int) > n then (0 : Int) else n then (128 : Int) else if (0 : Int) > n then (0 : Int) else n)))]))) = r) := by kernel_rfl

/-- From 0 to 128. -/
def clamp (n : Int) : Int := max 0 (min n 128)

theorem clamp_eq (n : Int) : (if 128 < (if 0 > n then 0 else n) then 128 else if 0 > n then 0 else n) = clamp n := by
  unfold clamp
  split <;> split <;> omega

theorem top_mk {n : Int} (h0 : 0 ≤ n) : ~~~(BitVec.ofInt 64 18446744073709551615 >>> n.toNat) = mkW n := by
  refine msb_eq fun i hi => ?_
  rw [mkW_msb n hi, BitVec.getMsbD_not, BitVec.getMsbD_ushiftRight, show BitVec.ofInt 64 18446744073709551615 = BitVec.allOnes 64 from by decide, BitVec.getMsbD_allOnes]
  by_cases h : (i : Int) < n
  · simp [h, hi, show i < n.toNat from by omega]
  · simp [h, hi, show ¬ i < n.toNat from by omega]
    omega

theorem mkW_congr {n m : Int} (h : ∀ i : Nat, i < 64 → ((i : Int) < n ↔ (i : Int) < m)) : mkW n = mkW m :=
  msb_eq fun i hi => by rw [mkW_msb _ hi, mkW_msb _ hi]; congr 1; exact propext (h i hi)

theorem amask_ok : SpecOK Try.prog 65 (genSpec [none] maskF) := by
  refine genSpec_ok none_ok fun l R hF => ?_
  unfold maskF at hF
  split at hF
  · rename_i n
    refine ⟨_, hF, rfl, [.nw], ?_⟩
    show run [] Try.prog _ [.int .i64 n] [] _ _
    rw [amask_run]
    simp only [clamp_eq]
    have hc : (if 64 < clamp n then 64 else clamp n) = min (clamp n) 64 := by split <;> omega
    rw [hc]
    have b : 0 ≤ clamp n ∧ clamp n ≤ 128 := by unfold clamp; omega
    refine ⟨by omega, inR (by omega) (by omega), by omega, ?_⟩
    show AV.agg [.w64 _, .w64 _] = _
    rw [top_mk (by omega), top_mk (by omega)]
    rw [show mkW (min (clamp n) 64) = mkW n from mkW_congr fun i hi => by unfold clamp; omega,
      show mkW (clamp n - min (clamp n) 64) = mkW (n - 64) from mkW_congr fun i hi => by unfold clamp; omega]
  · exact hF.elim

noncomputable def cutCs : List (FuncId × Sx.Spec) := [(65, genSpec [none] maskF)]

theorem cutCs_ok : ∀ e ∈ cutCs, SpecOK Try.prog e.1 e.2 := by
  intro e he
  simp only [cutCs, List.mem_cons, List.not_mem_nil, or_false] at he
  rcases he with rfl
  exact amask_ok

def cutF : List Arg → (Res → Prop) → Prop
  | [.v (.agg [.w64 a, .w64 b]), .v (.int .i64 n)], R => R (.v (.agg [.w64 (a &&& mkW n), .w64 (b &&& mkW (n - 64))]))
  | _, _ => False

theorem cut_run (a b : BitVec 64) (n : Int) (r : AV) : run cutCs Try.prog 54 [.agg [.w64 a, .w64 b], .int .i64 n] [] [] (yields (.v r)) =
    (Go.Sx.AV.agg (List.map Go.Sx.canon1 (List.take (2 : Nat) (List.drop (0 : Nat) [Go.Sx.AV.w64 (a &&& Go.Proofs.Ytffcpblbdfjagaa.L1.mkW n), Go.Sx.AV.w64 (b &&& Go.Proofs.Ytffcpblbdfjagaa.L1.mkW (n - (64 : Int)))]))) = r) := by kernel_rfl

theorem cut_ok : SpecOK Try.prog 54 (genSpec [none, none] cutF) := by
  refine genSpec_ok (run_ok (l := cutCs) cutCs_ok mixed noNG) fun l R hF => ?_
  unfold cutF at hF
  split at hF
  · rename_i a b n
    refine ⟨_, hF, rfl, [], ?_⟩
    show run cutCs Try.prog _ [.agg [.w64 a, .w64 b], .int .i64 n] [] _ _
    rw [cut_run]
    first | rfl | exact ⟨rfl, rfl⟩
  · exact hF.elim

theorem bitAt_cut (a b : BitVec 64) (n : Int) {i : Nat} (hi : i < 128) : bitAt (a &&& mkW n) (b &&& mkW (n - 64)) i = (bitAt a b i && decide ((i : Int) < n)) := by
  rw [← bitAt_mk n hi]
  unfold bitAt
  split <;> rw [BitVec.getMsbD_and]

theorem cut_iff {a b c d : BitVec 64} {n : Int} : (a &&& mkW n == c &&& mkW n && b &&& mkW (n - 64) == d &&& mkW (n - 64)) = true ↔ ∀ i : Nat, i < 128 → (i : Int) < n → bitAt a b i = bitAt c d i := by
  rw [Bool.and_eq_true, beq_iff_eq, beq_iff_eq]
  refine ⟨fun ⟨h1, h2⟩ i hi hn => ?_, fun h => bitAt_eq fun i hi => ?_⟩
  · have e1 := bitAt_cut a b n hi
    have e2 := bitAt_cut c d n hi
    rw [decide_eq_true hn, Bool.and_true] at e1 e2
    rw [← e1, ← e2, h1, h2]
  · rw [bitAt_cut a b n hi, bitAt_cut c d n hi]
    by_cases hn : (i : Int) < n
    · rw [h i hi hn]
    · rw [decide_eq_false hn, Bool.and_false, Bool.and_false]

theorem cut_self {a b : BitVec 64} {n : Int} : (a &&& mkW n == a && b &&& mkW (n - 64) == b) = true ↔ ∀ i : Nat, i < 128 → n ≤ (i : Int) → bitAt a b i = false := by
  rw [Bool.and_eq_true, beq_iff_eq, beq_iff_eq]
  refine ⟨fun ⟨h1, h2⟩ i hi hn => ?_, fun h => bitAt_eq fun i hi => ?_⟩
  · have e1 := bitAt_cut a b n hi
    rw [h1, h2, decide_eq_false (by omega), Bool.and_false] at e1
    exact e1
  · rw [bitAt_cut a b n hi]
    by_cases hn : (i : Int) < n
    · rw [decide_eq_true hn, Bool.and_true]
    · rw [decide_eq_false hn, Bool.and_false, h i hi (by omega)]

end Go.Proofs.Ytffcpblbdfjagaa.L1
