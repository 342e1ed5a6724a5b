/-
  Layer 1: contracts of the document's own functions Bits and Words.
-/
import Derived.Test.YtffcpblbdfjagaaL1Base
import Derived.Test.YtffcpblbdfjagaaSxM
import Derived.Test.YtffcpblbdfjagaaM01
namespace Go.Proofs.Ytffcpblbdfjagaa.L1
open Go.Sx Go.Sx.M

def pBool : Par := some (4, 1)

/-- Bits: the 128 bits of an address, from the left. -/
def bitsOf (a b : BitVec 64) : List AV := (List.range 128).map fun k => .bool (bitAt a b k)

def bitsF : List Arg → (Res → Prop) → Prop
  | [.v (.agg [.w64 a, .w64 b])], R => R (.row 4 1 (bitsOf a b))
  | _, _ => False

theorem bits_run (a b : BitVec 64) : run [] Try.prog 55 [.agg [.w64 a, .w64 b]] [] [.loop 3, .loop 65, .loop 65] (yields (.row 4 1 (bitsOf a b))) =
    (128 = (bitsOf a b).length ∧ some (Blk.mk true 4 1 true ((List.range 128).map fun k => .bool (bitDiv a b k))) = some (Blk.mk true 4 1 true (bitsOf a b))) := by
  kernel_rfl

theorem bits_ok : SpecOK Try.prog 55 (genSpec [none] bitsF) := by
  refine genSpec_ok none_ok fun l R hF => ?_
  unfold bitsF at hF
  split at hF
  · rename_i a b
    refine ⟨_, hF, trivial, [.loop 3, .loop 65, .loop 65], ?_⟩
    show run [] Try.prog _ [.agg [.w64 a, .w64 b]] [] [.loop 3, .loop 65, .loop 65] _
    rw [bits_run]
    refine ⟨by simp [bitsOf], ?_⟩
    congr 2
    unfold bitsOf
    apply List.map_congr_left
    intro k hk
    rw [bitDiv_eq (by simpa using hk)]
  · exact hF.elim

/-- The two words of a row of bools. -/
def wd (l : List Bool) (o : Nat) (n : Nat) : BitVec 64 := W (fun i => l.getD (o + i) false) n

def wordsSt (l : List Bool) (p : Int × BitVec 64 × BitVec 64) : St := ⟨[.vsl 0 0 128, .any, .ptr 1 0 0 true, .ptr 2 0 0 true, .int .i64 p.1] ++ List.replicate 25 .any,
  [some ⟨false, 4, 1, true, l.map .bool⟩, some ⟨true, 24, 2, true, [.agg [.lit (.int .u64 0), .lit (.int .u64 0)]]⟩, some ⟨true, 24, 2, true, [.agg [.w64 p.2.1, .w64 p.2.2]]⟩]⟩

def wordsM0 : Modes := ⟨[1, 0, 1, 1, 2] ++ List.replicate 25 0, [0, 1, 2], [1, 1, 2], [], []⟩
def wordsM : Modes := ⟨[1, 0, 1, 1, 1] ++ List.replicate 25 0, [0, 1, 2], [1, 1, 1], [], []⟩

def wordsI (l : List Bool) (p : Int × BitVec 64 × BitVec 64) : Prop := 0 ≤ p.1 ∧ p.1 ≤ 128 ∧ p.2.1 = wd l 0 (min p.1.toNat 64) ∧ p.2.2 = wd l 64 (p.1.toNat - 64)

def wordsH (l : List Bool) : List Hint := [.linv _ (0, 0#64, 0#64) (wordsSt l) (wordsI l) (fun p => (200 - p.1).toNat) wordsM0 wordsM wordsM (fun _ => []) fun p =>
  [.split (decide (p.1 < 64))
    [.split (l.getD p.1.toNat false) [.fork [.nw, .nw, .ix 0, .ix 0, .dy, .cell (.bool true), .br true, .nw, .nw, .ix 0, .ix 0, .nw] []] [.fork [.nw, .nw, .ix 0, .ix 0, .dy, .cell (.bool false), .br false, .nw] []]]
    [.split (l.getD p.1.toNat false) [.fork [.nw, .nw, .ix 1, .ix 1, .dy, .cell (.bool true), .br true, .nw, .nw, .ix 1, .ix 1, .nw] []] [.fork [.nw, .nw, .ix 1, .ix 1, .dy, .cell (.bool false), .br false, .nw] []]]]]

theorem read_bool {l : List Bool} {k : Int} {b w : Bool} (h0 : 0 ≤ k) (hl : k < (l.length : Int)) (hb : l.getD k.toNat false = b) : (Blk.mk w 4 1 true (l.map .bool)).read Try.prog 4 (0 + k.toNat) 0 = some (.bool b) := by
  refine read1 ?_ (by kernel_rfl)
  rw [← hb]
  simp [List.getD_eq_getElem?_getD, show k.toNat < l.length from by omega]

theorem div64_in {k : Int} (h0 : 0 ≤ k) (h1 : k < 128) : inRange .i64 (k.tdiv 64) := by
  rw [Int.tdiv_eq_ediv_of_nonneg h0]; exact inR (by omega) (by omega)

theorem div64_lo {k : Int} (h0 : 0 ≤ k) (h1 : k < 64) : k.tdiv 64 = ((0 : Nat) : Int) := by rw [Int.tdiv_eq_ediv_of_nonneg h0]; omega
theorem div64_hi {k : Int} (h0 : 64 ≤ k) (h1 : k < 128) : k.tdiv 64 = ((1 : Nat) : Int) := by rw [Int.tdiv_eq_ediv_of_nonneg (by omega)]; omega

theorem wd_succ (l : List Bool) (o n : Nat) : wd l o (n + 1) = if l.getD (o + n) false then wd l o n * 2#64 + 1#64 else wd l o n * 2#64 := rfl

def wordsF : List Arg → (Res → Prop) → Prop
  | [.row es], R => ∃ l : List Bool, es = l.map .bool ∧ l.length = 128 ∧ R (.v (.agg [.w64 (wd l 0 64), .w64 (wd l 64 64)]))
  | _, _ => False

end Go.Proofs.Ytffcpblbdfjagaa.L1
