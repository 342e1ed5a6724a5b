/-
  Layer 1: contracts of the document's own functions Op and Mask.
-/
import Derived.Test.YtffcpblbdfjagaaL1Ref
namespace Go.Proofs.Ytffcpblbdfjagaa.L1
open Go.Sx Go.Sx.M

/-- One bit of Op. -/
def opB (w : Int) (x y : Bool) : Bool := if w = 2 then x != y else if w = 1 then x || y else x && y

def opSt (F : List Bool → List AV) (w : Int) (a b c d : BitVec 64) (p : Nat × List Bool) : St :=
  ⟨[.int .i64 w, .any, .any, .any, .any, .any, .ptr 2 0 0 true, .slice 3 0 128 false, .slice 4 0 128 false, .vsl 5 0 p.1, .int .i64 p.1, .any, .any, .any, .any, .any, .any, .any, .any, .any, .any, .any, .any, .any, .any, .any, .any, .any, .any, .any, .any, .any, .any, .any, .any, .any, .any, .any, .any, .any, .any, .any, .any, .any, .any, .any, .any, .any, .any, .any, .any, .any, .any, .any, .any, .any, .any, .any, .any],
   [none, none, some ⟨true, 24, 2, true, [.agg [.lit (.int .u64 0), .lit (.int .u64 0)]]⟩, some ⟨true, 4, 1, true, bitsOf a b⟩, some ⟨true, 4, 1, true, bitsOf c d⟩, some ⟨true, 4, 1, true, F p.2⟩]⟩

def opM0 : Modes := ⟨[1, 0, 0, 0, 0, 0, 1, 1, 1, 1, 2, 0, 0, 0, 0, 0, 0, 0, 0, 0, 0, 0, 0, 0, 0, 0, 0, 0, 0, 0, 0, 0, 0, 0, 0, 0, 0, 0, 0, 0, 0, 0, 0, 0, 0, 0, 0, 0, 0, 0, 0, 0, 0, 0, 0, 0, 0, 0, 0], [0, 1, 2, 3, 4], [0, 0, 1, 1, 1], [], [(9, 4, 1)]⟩
def opM : Modes := ⟨[1, 0, 0, 0, 0, 0, 1, 1, 1, 1, 1, 0, 0, 0, 0, 0, 0, 0, 0, 0, 0, 0, 0, 0, 0, 0, 0, 0, 0, 0, 0, 0, 0, 0, 0, 0, 0, 0, 0, 0, 0, 0, 0, 0, 0, 0, 0, 0, 0, 0, 0, 0, 0, 0, 0, 0, 0, 0, 0], [0, 1, 2, 3, 4, 7], [0, 0, 1, 1, 1, 1], [], []⟩
def opM' : Modes := ⟨[1, 0, 0, 0, 0, 0, 1, 1, 1, 1, 1, 0, 0, 0, 0, 0, 0, 0, 0, 0, 0, 0, 0, 0, 0, 0, 0, 0, 0, 0, 0, 0, 0, 0, 0, 0, 0, 0, 0, 0, 0, 0, 0, 0, 0, 0, 0, 0, 0, 0, 0, 0, 0, 0, 0, 0, 0, 0, 0], [0, 1, 2, 3, 4, 5], [0, 0, 1, 1, 1, 1], [], []⟩

def opI (w : Int) (a b c d : BitVec 64) (p : Nat × List Bool) : Prop := p.1 ≤ 128 ∧ p.2 = (List.range p.1).map fun k => opB w (bitAt a b k) (bitAt c d k)

def opH (F : List Bool → List AV) (w : Int) (a b c d : BitVec 64) : List Hint := [.linv _ (0, []) (opSt F w a b c d) (opI w a b c d) (fun p => 200 - p.1) opM0 opM opM' (fun _ => []) fun p =>
  [.fork [.split (bitAt a b p.1)
     [.dy, .cell (.bool true), .br true, .dy, .cell (.bool (bitAt c d p.1)), .fork [.dy, .cell (.bool true), .br true, .br false, .nw] [.fork [.dy, .cell (.bool true), .dy, .cell (.bool (bitAt c d p.1)), .nw] [.nw]]]
     [.dy, .cell (.bool false), .br false, .fork [.dy, .cell (.bool false), .br false, .dy, .cell (.bool (bitAt c d p.1)), .br false, .nw] [.fork [.dy, .cell (.bool false), .dy, .cell (.bool (bitAt c d p.1)), .nw] [.nw]]]] []]]

theorem app_row {l : List Bool} {n : Nat} (h : l.length = n) (v : Bool) : List.take n (l.map AV.bool) ++ List.take 1 (List.drop 0 [AV.bool v]) = (l ++ [v]).map AV.bool := by
  rw [List.take_of_length_le (by simp [h]), List.map_append]; rfl

theorem rowAt (a b : BitVec 64) {n : Nat} (hn : n < 128) : (bitsOf a b)[n]? = some (.bool (bitAt a b n)) := by
  unfold bitsOf
  rw [List.getElem?_map, List.getElem?_range hn]
  rfl

theorem read_bits {a b : BitVec 64} {k : Int} {v w : Bool} (h0 : 0 ≤ k) (hk : k < 128) (hv : bitAt a b k.toNat = v) : (Blk.mk w 4 1 true (bitsOf a b)).read Try.prog 4 (0 + k.toNat) 0 = some (.bool v) := by
  rw [← hv]
  exact read1 (rowAt a b (by omega)) (by kernel_rfl)

def opW (w : Int) (x y : BitVec 64) : BitVec 64 := if w = 2 then x ^^^ y else if w = 1 then x ||| y else x &&& y

theorem opW_msb (w : Int) (x y : BitVec 64) (i : Nat) : (opW w x y).getMsbD i = opB w (x.getMsbD i) (y.getMsbD i) := by
  unfold opW opB
  split
  · rw [BitVec.getMsbD_xor]
  · split
    · rw [BitVec.getMsbD_or]
    · rw [BitVec.getMsbD_and]

theorem wd_map {f : Nat → Bool} {x : BitVec 64} {o : Nat} (ho : o + 64 ≤ 128) (h : ∀ i, i < 64 → f (o + i) = x.getMsbD i) : wd ((List.range 128).map f) o 64 = x := by
  unfold wd
  refine W_eq fun i hi => ?_
  rw [← h i hi, List.getD_eq_getElem?_getD, List.getElem?_map, List.getElem?_range (by omega)]
  rfl

theorem wd_bits (f : Nat → Bool) (x y : BitVec 64) (h : ∀ k, k < 128 → f k = bitAt x y k) : wd ((List.range 128).map f) 0 64 = x ∧ wd ((List.range 128).map f) 64 64 = y := by
  refine ⟨wd_map (by omega) fun i hi => ?_, wd_map (by omega) fun i hi => ?_⟩
  · rw [h _ (by omega), bitAt, if_pos (by omega)]; simp
  · rw [h _ (by omega), bitAt, if_neg (by omega)]; simp

theorem fits_map {f : Nat → Bool} {k : Int} {v w : Bool} (h0 : 0 ≤ k) (hk : k < 128) : (Blk.mk w 4 1 true (((List.range 128).map f).map .bool)).fits (0 + k.toNat) 0 (.bool v) = true := by
  unfold Blk.fits
  rw [Nat.zero_add, List.getElem?_map, List.getElem?_map, List.getElem?_range (by omega)]
  rfl

theorem writes_map {f g : Nat → Bool} {k : Int} {v w : Bool} (h0 : 0 ≤ k) (hk : k < 128) (h : ∀ m : Nat, m < 128 → g m = if k = (m : Int) then v else f m) : (Blk.mk w 4 1 true (((List.range 128).map f).map .bool)).writes (0 + k.toNat) 0 (.bool v) (((List.range 128).map g).map .bool) := by
  unfold Blk.writes Blk.write
  dsimp only
  rw [Nat.zero_add]
  have e : (((List.range 128).map f).map AV.bool)[k.toNat]? = some (.bool (f k.toNat)) := by
    rw [List.getElem?_map, List.getElem?_map, List.getElem?_range (by omega)]; rfl
  rw [e]
  apply List.ext_getElem?
  intro i
  by_cases hi : i < 128
  · rw [List.getElem?_set, List.getElem?_map, List.getElem?_map, List.getElem?_map, List.getElem?_map, List.getElem?_range hi]
    simp only [Option.map_some, List.length_map, List.length_range]
    by_cases hk' : k.toNat = i
    · rw [if_pos hk', if_pos (by omega), h i hi, if_pos (by omega)]; rfl
    · rw [if_neg hk', h i hi, if_neg (by omega)]
  · rw [List.getElem?_eq_none (by simp; omega), List.getElem?_eq_none (by simp; omega)]

def opF : List Arg → (Res → Prop) → Prop
  | [.v (.int .i64 w), .v (.agg [.w64 a, .w64 b]), .v (.agg [.w64 c, .w64 d])], R => R (.v (.agg [.w64 (opW w a c), .w64 (opW w b d)]))
  | _, _ => False

theorem bitAt_op (w : Int) (a b c d : BitVec 64) {k : Nat} : opB w (bitAt a b k) (bitAt c d k) = bitAt (opW w a c) (opW w b d) k := by
  unfold bitAt
  split <;> rw [opW_msb]

end Go.Proofs.Ytffcpblbdfjagaa.L1
