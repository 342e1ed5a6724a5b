/-
  Texts in one: L1Base L1Ref L1Op L1Mask L1Bit L1Com L1Cmp.
-/
import Derived.Test.YtmkppicnbjoijaaSxL
import Derived.Test.YtmkppicnbjoijaaMo
import Derived.Test.YtmkppicnbjoijaaRows
import Derived.Test.YtmkppicnbjoijaaSxM
import Derived.Test.YtmkppicnbjoijaaMa

section
/-
  Layer 1: what all of its laws' proofs use.
-/
namespace Go.Proofs.Ytmkppicnbjoijaa.L1
open Go.Sx

theorem own : ownKnob Try.prog.godebug = none := by kernel_rfl
theorem laidOut : laidOutB Try.prog = true := by kernel_rfl
theorem noNG : Sx.noNG Try.prog = true := by kernel_rfl
theorem mixed : Fol Try.prog := ⟨by kernel_rfl, maps_ok⟩

theorem none_ok : COK Try.prog false (run [] Try.prog) := run_ok (by simp) mixed noNG

end Go.Proofs.Ytmkppicnbjoijaa.L1
end

section
/-
  Layer 1: contracts of the document's own functions Bits and Words.
-/
namespace Go.Proofs.Ytmkppicnbjoijaa.L1
open Go.Sx Go.Sx.M

def pBool : Par := some (4, 1)

/-- Bits: the 128 bits of an address, from the left. -/
def bitsOf (a b : BitVec 64) : List AV := (List.range 128).map fun k => .bool (bitAt a b k)

def bitsF : List Arg → (Res → Prop) → Prop
  | [.v (.agg [.w64 a, .w64 b])], R => R (.row 4 1 (bitsOf a b))
  | _, _ => False

theorem bits_run (a b : BitVec 64) : run [] Try.prog 72 [.agg [.w64 a, .w64 b]] [] [.loop 3, .loop 65, .loop 65] (yields (.row 4 1 (bitsOf a b))) =
    (128 = (bitsOf a b).length ∧ some (Blk.mk true 4 1 true ((List.range 128).map fun k => .bool (bitDiv a b k))) = some (Blk.mk true 4 1 true (bitsOf a b))) := by
  kernel_rfl

theorem bits_ok : SpecOK Try.prog 72 (genSpec [none] bitsF) := by
  refine genSpec_ok none_ok fun l R hF => ?_
  unfold bitsF at hF
  split at hF
  · rename_i a b
    refine ⟨_, hF, trivial, [.loop 3, .loop 65, .loop 65], ?_⟩
    show run [] Try.prog _ [.agg [.w64 a, .w64 b]] [] [.loop 3, .loop 65, .loop 65] _
    rw [bits_run]
    refine ⟨by simp [bitsOf], ?_⟩
    congr 2
    unfold bitsOf
    apply List.map_congr_left
    intro k hk
    rw [bitDiv_eq (by simpa using hk)]
  · exact hF.elim

/-- The two words of a row of bools. -/
def wd (l : List Bool) (o : Nat) (n : Nat) : BitVec 64 := W (fun i => l.getD (o + i) false) n

def wordsSt (l : List Bool) (p : Int × BitVec 64 × BitVec 64) : St := ⟨[.vsl 0 0 128, .any, .ptr 1 0 0 true, .ptr 2 0 0 true, .int .i64 p.1] ++ List.replicate 25 .any,
  [some ⟨false, 4, 1, true, l.map .bool⟩, some ⟨true, 24, 2, true, [.agg [.lit (.int .u64 0), .lit (.int .u64 0)]]⟩, some ⟨true, 24, 2, true, [.agg [.w64 p.2.1, .w64 p.2.2]]⟩]⟩

def wordsM0 : Modes := ⟨[1, 0, 1, 1, 2] ++ List.replicate 25 0, [0, 1, 2], [1, 1, 2], [], []⟩
def wordsM : Modes := ⟨[1, 0, 1, 1, 1] ++ List.replicate 25 0, [0, 1, 2], [1, 1, 1], [], []⟩

def wordsI (l : List Bool) (p : Int × BitVec 64 × BitVec 64) : Prop := 0 ≤ p.1 ∧ p.1 ≤ 128 ∧ p.2.1 = wd l 0 (min p.1.toNat 64) ∧ p.2.2 = wd l 64 (p.1.toNat - 64)

def wordsH (l : List Bool) : List Hint := [.linv _ (0, 0#64, 0#64) (wordsSt l) (wordsI l) (fun p => (200 - p.1).toNat) wordsM0 wordsM wordsM (fun _ => []) fun p =>
  [.split (decide (p.1 < 64))
    [.split (l.getD p.1.toNat false) [.fork [.nw, .nw, .ix 0, .ix 0, .dy, .cell (.bool true), .br true, .nw, .nw, .ix 0, .ix 0, .nw] []] [.fork [.nw, .nw, .ix 0, .ix 0, .dy, .cell (.bool false), .br false, .nw] []]]
    [.split (l.getD p.1.toNat false) [.fork [.nw, .nw, .ix 1, .ix 1, .dy, .cell (.bool true), .br true, .nw, .nw, .ix 1, .ix 1, .nw] []] [.fork [.nw, .nw, .ix 1, .ix 1, .dy, .cell (.bool false), .br false, .nw] []]]]]

theorem words_run (l : List Bool) (r : AV) : run [] Try.prog 73 [.vsl 0 0 128] [some ⟨false, 4, 1, true, l.map .bool⟩] (wordsH l) (yields (.v r)) =
    ((St.mk [AV.vsl 0 0 128, .any, AV.ptr ((0 : Nat) + (1 : Nat)) 0 0 true, AV.ptr ((0 : Nat) + (1 : Nat) + (1 : Nat)) 0 0 true, AV.int IntKind.i64 0, .any, .any, .any, .any, .any, .any, .any, .any, .any, .any, .any, .any, .any, .any, .any, .any, .any, .any, .any, .any, .any, .any, .any, .any, .any] [some (Blk.mk false (4 : TypeId) 1 true (List.map AV.bool l)), some (Blk.mk true 24 2 true [AV.agg (List.map AV.lit (Array.toList #[Value.int IntKind.u64 0, Value.int IntKind.u64 0]))]), some (Blk.mk true (nat_lit 24) 2 true (List.map canon [AV.agg (List.map AV.lit (Array.toList #[Value.int IntKind.u64 0, Value.int IntKind.u64 0]))]))] = wordsSt l ((0 : Int), BitVec.ofNat 64 0, BitVec.ofNat 64 0) ∧ wordsI l ((0 : Int), BitVec.ofNat 64 0, BitVec.ofNat 64 0)) ∧ ∀ (p : Int × BitVec 64 × BitVec 64), wordsI l p → (Decidable.decide (p.1 < (64 : Int)) = true → (List.getD l (Int.toNat p.1) false = true → (Decidable.decide (p.1 < (128 : Int)) = true → inRange IntKind.i64 (Int.tdiv p.1 64) ∧ inRange IntKind.i64 (Int.tdiv p.1 64) ∧ Int.tdiv p.1 64 = (↑(0 : Nat) : Int) ∧ Int.tdiv p.1 64 = (↑(0 : Nat) : Int) ∧ ((0 : Int) ≤ p.1 ∧ p.1 < (↑(128 : Nat) : Int)) ∧ Blk.read Proofs.Try.prog (Blk.mk false (4 : TypeId) 1 true (List.map AV.bool l)) 4 ((0 : Nat) + Int.toNat p.1) 0 = some (AV.bool true) ∧ true = true ∧ inRange IntKind.i64 (Int.tdiv p.1 64) ∧ inRange IntKind.i64 (Int.tdiv p.1 64) ∧ Int.tdiv p.1 64 = (↑(0 : Nat) : Int) ∧ Int.tdiv p.1 64 = (↑(0 : Nat) : Int) ∧ inRange IntKind.i64 (p.1 + (1 : Int)) ∧ ∃ (p' : Int × BitVec 64 × BitVec 64), St.mk [AV.vsl 0 0 128, .any, AV.ptr ((0 : Nat) + (1 : Nat)) 0 0 true, AV.ptr ((0 : Nat) + (1 : Nat) + (1 : Nat)) 0 0 true, AV.int IntKind.i64 (p.1 + (1 : Int)), .any, .any, .any, .any, .any, .any, .any, .any, .any, .any, .any, .any, .any, .any, .any, .any, .any, .any, .any, .any, .any, .any, .any, .any, .any] [some (Blk.mk false (4 : TypeId) 1 true (List.map AV.bool l)), some (Blk.mk true (24 : TypeId) 2 true [AV.agg [AV.lit (Value.int IntKind.u64 0), AV.lit (Value.int IntKind.u64 0)]]), some (Blk.mk true (nat_lit 24) 2 true (List.set [AV.agg [AV.w64 ((Prod.snd p).1 * BitVec.ofInt 64 2), AV.w64 (Prod.snd p).2]] 0 (AV.agg [AV.w64 ((Prod.snd p).1 * BitVec.ofInt 64 2 + BitVec.ofInt 64 1), AV.w64 (Prod.snd p).2])))] = wordsSt l p' ∧ wordsI l p' ∧ Int.toNat ((200 : Int) - p'.1) < Int.toNat ((200 : Int) - p.1)) ∧ (Decidable.decide (p.1 < (128 : Int)) = false → AV.agg (List.map canon1 (List.take 2 (List.drop 0 [AV.w64 (Prod.snd p).1, AV.w64 (Prod.snd p).2]))) = r)) ∧ (List.getD l (Int.toNat p.1) false = false → (Decidable.decide (p.1 < (128 : Int)) = true → inRange IntKind.i64 (Int.tdiv p.1 64) ∧ inRange IntKind.i64 (Int.tdiv p.1 64) ∧ Int.tdiv p.1 64 = (↑(0 : Nat) : Int) ∧ Int.tdiv p.1 64 = (↑(0 : Nat) : Int) ∧ ((0 : Int) ≤ p.1 ∧ p.1 < (↑(128 : Nat) : Int)) ∧ Blk.read Proofs.Try.prog (Blk.mk false (4 : TypeId) 1 true (List.map AV.bool l)) 4 ((0 : Nat) + Int.toNat p.1) 0 = some (AV.bool false) ∧ false = false ∧ inRange IntKind.i64 (p.1 + (1 : Int)) ∧ ∃ (p' : Int × BitVec 64 × BitVec 64), St.mk [AV.vsl 0 0 128, .any, AV.ptr ((0 : Nat) + (1 : Nat)) 0 0 true, AV.ptr ((0 : Nat) + (1 : Nat) + (1 : Nat)) 0 0 true, AV.int IntKind.i64 (p.1 + (1 : Int)), .any, .any, .any, .any, .any, .any, .any, .any, .any, .any, .any, .any, .any, .any, .any, .any, .any, .any, .any, .any, .any, .any, .any, .any, .any] [some (Blk.mk false (4 : TypeId) 1 true (List.map AV.bool l)), some (Blk.mk true (24 : TypeId) 2 true [AV.agg [AV.lit (Value.int IntKind.u64 0), AV.lit (Value.int IntKind.u64 0)]]), some (Blk.mk true (nat_lit 24) 2 true (List.set [AV.agg [AV.w64 (Prod.snd p).1, AV.w64 (Prod.snd p).2]] 0 (AV.agg [AV.w64 ((Prod.snd p).1 * BitVec.ofInt 64 2), AV.w64 (Prod.snd p).2])))] = wordsSt l p' ∧ wordsI l p' ∧ Int.toNat ((200 : Int) - p'.1) < Int.toNat ((200 : Int) - p.1)) ∧ (Decidable.decide (p.1 < (128 : Int)) = false → AV.agg (List.map canon1 (List.take 2 (List.drop 0 [AV.w64 (Prod.snd p).1, AV.w64 (Prod.snd p).2]))) = r))) ∧ (Decidable.decide (p.1 < (64 : Int)) = false → (List.getD l (Int.toNat p.1) false = true → (Decidable.decide (p.1 < (128 : Int)) = true → inRange IntKind.i64 (Int.tdiv p.1 64) ∧ inRange IntKind.i64 (Int.tdiv p.1 64) ∧ Int.tdiv p.1 64 = (↑(1 : Nat) : Int) ∧ Int.tdiv p.1 64 = (↑(1 : Nat) : Int) ∧ ((0 : Int) ≤ p.1 ∧ p.1 < (↑(128 : Nat) : Int)) ∧ Blk.read Proofs.Try.prog (Blk.mk false (4 : TypeId) 1 true (List.map AV.bool l)) 4 ((0 : Nat) + Int.toNat p.1) 0 = some (AV.bool true) ∧ true = true ∧ inRange IntKind.i64 (Int.tdiv p.1 64) ∧ inRange IntKind.i64 (Int.tdiv p.1 64) ∧ Int.tdiv p.1 64 = (↑(1 : Nat) : Int) ∧ Int.tdiv p.1 64 = (↑(1 : Nat) : Int) ∧ inRange IntKind.i64 (p.1 + (1 : Int)) ∧ ∃ (p' : Int × BitVec 64 × BitVec 64), St.mk [AV.vsl 0 0 128, .any, AV.ptr ((0 : Nat) + (1 : Nat)) 0 0 true, AV.ptr ((0 : Nat) + (1 : Nat) + (1 : Nat)) 0 0 true, AV.int IntKind.i64 (p.1 + (1 : Int)), .any, .any, .any, .any, .any, .any, .any, .any, .any, .any, .any, .any, .any, .any, .any, .any, .any, .any, .any, .any, .any, .any, .any, .any, .any] [some (Blk.mk false (4 : TypeId) 1 true (List.map AV.bool l)), some (Blk.mk true (24 : TypeId) 2 true [AV.agg [AV.lit (Value.int IntKind.u64 0), AV.lit (Value.int IntKind.u64 0)]]), some (Blk.mk true (nat_lit 24) 2 true (List.set [AV.agg [AV.w64 (Prod.snd p).1, AV.w64 ((Prod.snd p).2 * BitVec.ofInt 64 2)]] 0 (AV.agg [AV.w64 (Prod.snd p).1, AV.w64 ((Prod.snd p).2 * BitVec.ofInt 64 2 + BitVec.ofInt 64 1)])))] = wordsSt l p' ∧ wordsI l p' ∧ Int.toNat ((200 : Int) - p'.1) < Int.toNat ((200 : Int) - p.1)) ∧ (Decidable.decide (p.1 < (128 : Int)) = false → AV.agg (List.map canon1 (List.take 2 (List.drop 0 [AV.w64 (Prod.snd p).1, AV.w64 (Prod.snd p).2]))) = r)) ∧ (List.getD l (Int.toNat p.1) false = false → (Decidable.decide (p.1 < (128 : Int)) = true → inRange IntKind.i64 (Int.tdiv p.1 64) ∧ inRange IntKind.i64 (Int.tdiv p.1 64) ∧ Int.tdiv p.1 64 = (↑(1 : Nat) : Int) ∧ Int.tdiv p.1 64 = (↑(1 : Nat) : Int) ∧ ((0 : Int) ≤ p.1 ∧ p.1 < (↑(128 : Nat) : Int)) ∧ Blk.read Proofs.Try.prog (Blk.mk false (4 : TypeId) 1 true (List.map AV.bool l)) 4 ((0 : Nat) + Int.toNat p.1) 0 = some (AV.bool false) ∧ false = false ∧ inRange IntKind.i64 (p.1 + (1 : Int)) ∧ ∃ (p' : Int × BitVec 64 × BitVec 64), St.mk [AV.vsl 0 0 128, .any, AV.ptr ((0 : Nat) + (1 : Nat)) 0 0 true, AV.ptr ((0 : Nat) + (1 : Nat) + (1 : Nat)) 0 0 true, AV.int IntKind.i64 (p.1 + (1 : Int)), .any, .any, .any, .any, .any, .any, .any, .any, .any, .any, .any, .any, .any, .any, .any, .any, .any, .any, .any, .any, .any, .any, .any, .any, .any] [some (Blk.mk false (4 : TypeId) 1 true (List.map AV.bool l)), some (Blk.mk true (24 : TypeId) 2 true [AV.agg [AV.lit (Value.int IntKind.u64 0), AV.lit (Value.int IntKind.u64 0)]]), some (Blk.mk true (nat_lit 24) 2 true (List.set [AV.agg [AV.w64 (Prod.snd p).1, AV.w64 (Prod.snd p).2]] 0 (AV.agg [AV.w64 (Prod.snd p).1, AV.w64 ((Prod.snd p).2 * BitVec.ofInt 64 2)])))] = wordsSt l p' ∧ wordsI l p' ∧ Int.toNat ((200 : Int) - p'.1) < Int.toNat ((200 : Int) - p.1)) ∧ (Decidable.decide (p.1 < (128 : Int)) = false → AV.agg (List.map canon1 (List.take 2 (List.drop 0 [AV.w64 (Prod.snd p).1, AV.w64 (Prod.snd p).2]))) = r)))) := by kernel_rfl

theorem read_bool {l : List Bool} {k : Int} {b w : Bool} (h0 : 0 ≤ k) (hl : k < (l.length : Int)) (hb : l.getD k.toNat false = b) : (Blk.mk w 4 1 true (l.map .bool)).read Try.prog 4 (0 + k.toNat) 0 = some (.bool b) := by
  refine read1 ?_ (by kernel_rfl)
  rw [← hb]
  simp [List.getD_eq_getElem?_getD, show k.toNat < l.length from by omega]

theorem div64_in {k : Int} (h0 : 0 ≤ k) (h1 : k < 128) : inRange .i64 (k.tdiv 64) := by
  rw [Int.tdiv_eq_ediv_of_nonneg h0]; exact inR (by omega) (by omega)

theorem div64_lo {k : Int} (h0 : 0 ≤ k) (h1 : k < 64) : k.tdiv 64 = ((0 : Nat) : Int) := by rw [Int.tdiv_eq_ediv_of_nonneg h0]; omega
theorem div64_hi {k : Int} (h0 : 64 ≤ k) (h1 : k < 128) : k.tdiv 64 = ((1 : Nat) : Int) := by rw [Int.tdiv_eq_ediv_of_nonneg (by omega)]; omega

theorem wd_succ (l : List Bool) (o n : Nat) : wd l o (n + 1) = if l.getD (o + n) false then wd l o n * 2#64 + 1#64 else wd l o n * 2#64 := rfl

def wordsF : List Arg → (Res → Prop) → Prop
  | [.row es], R => ∃ l : List Bool, es = l.map .bool ∧ l.length = 128 ∧ R (.v (.agg [.w64 (wd l 0 64), .w64 (wd l 64 64)]))
  | _, _ => False

theorem words_ok : SpecOK Try.prog 73 (genSpec [pBool] wordsF) := by
  refine genSpec_ok none_ok fun args R hF => ?_
  unfold wordsF at hF
  split at hF
  · rename_i es
    obtain ⟨l, rfl, hl, hR⟩ := hF
    refine ⟨_, hR, rfl, wordsH l, ?_⟩
    have hlen : (l.map AV.bool).length = 128 := by simpa using hl
    show run _ _ _ [.vsl 0 0 (l.map AV.bool).length] [some ⟨false, 4, 1, true, l.map .bool⟩] (wordsH l) _
    rw [hlen, words_run]
    refine ⟨⟨rfl, by decide, by decide, rfl, rfl⟩, ?_⟩
    rintro ⟨k, x, y⟩ ⟨h0, h1, hx, hy⟩
    simp only at h0 h1 hx hy
    have out : decide (k < 128) = false → canon2 (AV.agg (List.take 2 (List.drop 0 [AV.w64 x, AV.w64 y]))) = AV.agg [.w64 (wd l 0 64), .w64 (wd l 64 64)] := by
      intro h
      obtain rfl : k = 128 := by simp at h; omega
      rw [hx, hy]; rfl
    refine ⟨fun h64 => ⟨fun hb => ⟨fun hlt => ?_, out⟩, fun hb => ⟨fun hlt => ?_, out⟩⟩, fun h64 => ⟨fun hb => ⟨fun hlt => ?_, out⟩, fun hb => ⟨fun hlt => ?_, out⟩⟩⟩
    all_goals
      simp only [decide_eq_true_eq, decide_eq_false_iff_not] at h64 hlt hb
      have e1 := div64_in h0 hlt
      have e2 : inRange .i64 (k + 1) := inR (by omega) (by omega)
      have rd := read_bool (w := false) h0 (by omega) hb
    · have e4 := div64_lo h0 h64
      refine ⟨e1, e1, e4, e4, ⟨h0, hlt⟩, rd, rfl, e1, e1, e4, e4, e2, (k + 1, x * 2#64 + 1#64, y), rfl, ⟨by simp only; omega, by simp only; omega, ?_, ?_⟩, by simp only; omega⟩
      · show x * 2#64 + 1#64 = _
        rw [show min (k + 1).toNat 64 = k.toNat + 1 from by omega, wd_succ, Nat.zero_add, hb, if_pos rfl, hx, show min k.toNat 64 = k.toNat from by omega]
      · show y = _
        rw [hy]; congr 1; omega
    · have e4 := div64_lo h0 h64
      refine ⟨e1, e1, e4, e4, ⟨h0, hlt⟩, rd, rfl, e2, (k + 1, x * 2#64, y), rfl, ⟨by simp only; omega, by simp only; omega, ?_, ?_⟩, by simp only; omega⟩
      · show x * 2#64 = _
        rw [show min (k + 1).toNat 64 = k.toNat + 1 from by omega, wd_succ, Nat.zero_add, hb, if_neg (by simp), hx, show min k.toNat 64 = k.toNat from by omega]
      · show y = _
        rw [hy]; congr 1; omega
    · have e4 := div64_hi (by omega) hlt
      refine ⟨e1, e1, e4, e4, ⟨h0, hlt⟩, rd, rfl, e1, e1, e4, e4, e2, (k + 1, x, y * 2#64 + 1#64), rfl, ⟨by simp only; omega, by simp only; omega, ?_, ?_⟩, by simp only; omega⟩
      · show x = _
        rw [hx]; congr 1; omega
      · show y * 2#64 + 1#64 = _
        rw [show (k + 1).toNat - 64 = (k.toNat - 64) + 1 from by omega, wd_succ, show 64 + (k.toNat - 64) = k.toNat from by omega, hb, if_pos rfl, hy]
    · have e4 := div64_hi (by omega) hlt
      refine ⟨e1, e1, e4, e4, ⟨h0, hlt⟩, rd, rfl, e2, (k + 1, x, y * 2#64), rfl, ⟨by simp only; omega, by simp only; omega, ?_, ?_⟩, by simp only; omega⟩
      · show x = _
        rw [hx]; congr 1; omega
      · show y * 2#64 = _
        rw [show (k + 1).toNat - 64 = (k.toNat - 64) + 1 from by omega, wd_succ, show 64 + (k.toNat - 64) = k.toNat from by omega, hb, if_neg (by simp), hy]
  · exact hF.elim

end Go.Proofs.Ytmkppicnbjoijaa.L1
end

section
/-
  Layer 1: contracts of the document's own functions Op and Mask.
-/
namespace Go.Proofs.Ytmkppicnbjoijaa.L1
open Go.Sx Go.Sx.M

/-- One bit of Op. -/
def opB (w : Int) (x y : Bool) : Bool := if w = 2 then x != y else if w = 1 then x || y else x && y

def opSt (F : List Bool → List AV) (w : Int) (a b c d : BitVec 64) (p : Nat × List Bool) : St :=
  ⟨[.int .i64 w, .any, .any, .any, .any, .any, .ptr 2 0 0 true, .slice 3 0 128 false, .slice 4 0 128 false, .vsl 5 0 p.1, .int .i64 p.1, .any, .any, .any, .any, .any, .any, .any, .any, .any, .any, .any, .any, .any, .any, .any, .any, .any, .any, .any, .any, .any, .any, .any, .any, .any, .any, .any, .any, .any, .any, .any, .any, .any, .any, .any, .any, .any, .any, .any, .any, .any, .any, .any, .any, .any, .any, .any, .any],
   [none, none, some ⟨true, 24, 2, true, [.agg [.lit (.int .u64 0), .lit (.int .u64 0)]]⟩, some ⟨true, 4, 1, true, bitsOf a b⟩, some ⟨true, 4, 1, true, bitsOf c d⟩, some ⟨true, 4, 1, true, F p.2⟩]⟩

def opM0 : Modes := ⟨[1, 0, 0, 0, 0, 0, 1, 1, 1, 1, 2, 0, 0, 0, 0, 0, 0, 0, 0, 0, 0, 0, 0, 0, 0, 0, 0, 0, 0, 0, 0, 0, 0, 0, 0, 0, 0, 0, 0, 0, 0, 0, 0, 0, 0, 0, 0, 0, 0, 0, 0, 0, 0, 0, 0, 0, 0, 0, 0], [0, 1, 2, 3, 4], [0, 0, 1, 1, 1], [], [(9, 4, 1)]⟩
def opM : Modes := ⟨[1, 0, 0, 0, 0, 0, 1, 1, 1, 1, 1, 0, 0, 0, 0, 0, 0, 0, 0, 0, 0, 0, 0, 0, 0, 0, 0, 0, 0, 0, 0, 0, 0, 0, 0, 0, 0, 0, 0, 0, 0, 0, 0, 0, 0, 0, 0, 0, 0, 0, 0, 0, 0, 0, 0, 0, 0, 0, 0], [0, 1, 2, 3, 4, 7], [0, 0, 1, 1, 1, 1], [], []⟩
def opM' : Modes := ⟨[1, 0, 0, 0, 0, 0, 1, 1, 1, 1, 1, 0, 0, 0, 0, 0, 0, 0, 0, 0, 0, 0, 0, 0, 0, 0, 0, 0, 0, 0, 0, 0, 0, 0, 0, 0, 0, 0, 0, 0, 0, 0, 0, 0, 0, 0, 0, 0, 0, 0, 0, 0, 0, 0, 0, 0, 0, 0, 0], [0, 1, 2, 3, 4, 5], [0, 0, 1, 1, 1, 1], [], []⟩

def opI (w : Int) (a b c d : BitVec 64) (p : Nat × List Bool) : Prop := p.1 ≤ 128 ∧ p.2 = (List.range p.1).map fun k => opB w (bitAt a b k) (bitAt c d k)

def opH (F : List Bool → List AV) (w : Int) (a b c d : BitVec 64) : List Hint := [.linv _ (0, []) (opSt F w a b c d) (opI w a b c d) (fun p => 200 - p.1) opM0 opM opM' (fun _ => []) fun p =>
  [.fork [.split (bitAt a b p.1)
     [.dy, .cell (.bool true), .br true, .dy, .cell (.bool (bitAt c d p.1)), .fork [.dy, .cell (.bool true), .br true, .br false, .nw] [.fork [.dy, .cell (.bool true), .dy, .cell (.bool (bitAt c d p.1)), .nw] [.nw]]]
     [.dy, .cell (.bool false), .br false, .fork [.dy, .cell (.bool false), .br false, .dy, .cell (.bool (bitAt c d p.1)), .br false, .nw] [.fork [.dy, .cell (.bool false), .dy, .cell (.bool (bitAt c d p.1)), .nw] [.nw]]]] []]]

noncomputable def opCs : List (FuncId × Sx.Spec) := [(72, genSpec [none] bitsF), (73, genSpec [pBool] wordsF)]

theorem op_run (F : List Bool → List AV) (w : Int) (a b c d : BitVec 64) (r : AV) : run opCs Try.prog 59 [.int .i64 w, .agg [.w64 a, .w64 b], .agg [.w64 c, .w64 d]] [] (opH F w a b c d) (yields (.v r)) =
    ((St.mk (List.set [AV.int IntKind.i64 w, .any, .any, .any, .any, .any, AV.ptr ((0 : Nat) + (1 : Nat) + (1 : Nat)) 0 0 true, AV.slice ((0 : Nat) + (1 : Nat) + (1 : Nat) + (1 : Nat)) 0 (List.length (bitsOf a b)) false, AV.slice ((0 : Nat) + (1 : Nat) + (1 : Nat) + (1 : Nat) + (1 : Nat)) 0 (List.length (bitsOf c d)) false, AV.lit (Value.slice none 0 0), AV.int IntKind.i64 0, .any, .any, .any, .any, .any, .any, .any, .any, .any, .any, .any, .any, .any, .any, .any, .any, .any, .any, .any, .any, .any, .any, .any, .any, .any, .any, .any, .any, .any, .any, .any, .any, .any, .any, .any, .any, .any, .any, .any, .any, .any, .any, .any, .any, .any, .any, .any, .any] 9 (AV.vsl (List.length [none, none, some (Blk.mk true 24 2 true [AV.agg (List.map AV.lit (Array.toList #[Value.int IntKind.u64 0, Value.int IntKind.u64 0]))]), some (Blk.mk true (4 : TypeId) 1 true (bitsOf a b)), some (Blk.mk true (4 : TypeId) 1 true (bitsOf c d))]) 0 0)) ([none, none, some (Blk.mk true 24 2 true [AV.agg (List.map AV.lit (Array.toList #[Value.int IntKind.u64 0, Value.int IntKind.u64 0]))]), some (Blk.mk true (4 : TypeId) 1 true (bitsOf a b)), some (Blk.mk true (4 : TypeId) 1 true (bitsOf c d))] ++ [some (Blk.mk true (4 : TypeId) 1 true [])]) = opSt F w a b c d ((0 : Nat), []) ∧ opI w a b c d ((0 : Nat), [])) ∧ ∀ (p : Nat × List Bool), opI w a b c d p → (Decidable.decide ((↑p.1 : Int) < (128 : Int)) = true → (bitAt a b p.1 = true → ((0 : Int) ≤ (↑p.1 : Int) ∧ (↑p.1 : Int) < (↑(128 : Nat) : Int)) ∧ Blk.read Proofs.Try.prog (Blk.mk true (4 : TypeId) 1 true (bitsOf a b)) 4 ((0 : Nat) + Int.toNat (↑p.1 : Int)) 0 = some (AV.bool true) ∧ true = true ∧ ((0 : Int) ≤ (↑p.1 : Int) ∧ (↑p.1 : Int) < (↑(128 : Nat) : Int)) ∧ Blk.read Proofs.Try.prog (Blk.mk true (4 : TypeId) 1 true (bitsOf c d)) 4 ((0 : Nat) + Int.toNat (↑p.1 : Int)) 0 = some (AV.bool (bitAt c d p.1)) ∧ ((w == (1 : Int)) = true → ((0 : Int) ≤ (↑p.1 : Int) ∧ (↑p.1 : Int) < (↑(128 : Nat) : Int)) ∧ Blk.read Proofs.Try.prog (Blk.mk true (4 : TypeId) 1 true (bitsOf a b)) 4 ((0 : Nat) + Int.toNat (↑p.1 : Int)) 0 = some (AV.bool true) ∧ true = true ∧ (w == (2 : Int)) = false ∧ ((p.1 + (1 : Nat)) * (1 : Nat) ≤ (140737488355328 : Nat) ∧ p.1 + (1 : Nat) ≤ (9223372036854775807 : Nat) ∧ (0 : Nat) + (1 : Nat) ≤ List.length [AV.bool true] ∧ p.1 ≤ List.length (F p.2)) ∧ inRange IntKind.i64 ((↑p.1 : Int) + (1 : Int)) ∧ ∃ (p' : Nat × List Bool), St.mk [AV.int IntKind.i64 w, .any, .any, .any, .any, .any, AV.ptr ((0 : Nat) + (1 : Nat) + (1 : Nat)) 0 0 true, AV.slice ((0 : Nat) + (1 : Nat) + (1 : Nat) + (1 : Nat)) 0 128 false, AV.slice ((0 : Nat) + (1 : Nat) + (1 : Nat) + (1 : Nat) + (1 : Nat)) 0 128 false, AV.vsl ((0 : Nat) + (1 : Nat) + (1 : Nat) + (1 : Nat) + (1 : Nat) + (1 : Nat)) 0 (p.1 + (1 : Nat)), AV.int IntKind.i64 ((↑p.1 : Int) + (1 : Int)), .any, .any, .any, .any, .any, .any, .any, .any, .any, .any, .any, .any, .any, .any, .any, .any, .any, .any, .any, .any, .any, .any, .any, .any, .any, .any, .any, .any, .any, .any, .any, .any, .any, .any, .any, .any, .any, .any, .any, .any, .any, .any, .any, .any, .any, .any, .any, .any] [none, none, some (Blk.mk true (24 : TypeId) 2 true [AV.agg [AV.lit (Value.int IntKind.u64 0), AV.lit (Value.int IntKind.u64 0)]]), some (Blk.mk true (4 : TypeId) 1 true (bitsOf a b)), some (Blk.mk true (4 : TypeId) 1 true (bitsOf c d)), some (Blk.mk true 4 1 true (List.take p.1 (F p.2) ++ List.take 1 (List.drop 0 [AV.bool true])))] = opSt F w a b c d p' ∧ opI w a b c d p' ∧ (200 : Nat) - p'.1 < (200 : Nat) - p.1) ∧ ((w == (1 : Int)) = false → ((w == (2 : Int)) = true → ((0 : Int) ≤ (↑p.1 : Int) ∧ (↑p.1 : Int) < (↑(128 : Nat) : Int)) ∧ Blk.read Proofs.Try.prog (Blk.mk true (4 : TypeId) 1 true (bitsOf a b)) 4 ((0 : Nat) + Int.toNat (↑p.1 : Int)) 0 = some (AV.bool true) ∧ ((0 : Int) ≤ (↑p.1 : Int) ∧ (↑p.1 : Int) < (↑(128 : Nat) : Int)) ∧ Blk.read Proofs.Try.prog (Blk.mk true (4 : TypeId) 1 true (bitsOf c d)) 4 ((0 : Nat) + Int.toNat (↑p.1 : Int)) 0 = some (AV.bool (bitAt c d p.1)) ∧ ((p.1 + (1 : Nat)) * (1 : Nat) ≤ (140737488355328 : Nat) ∧ p.1 + (1 : Nat) ≤ (9223372036854775807 : Nat) ∧ (0 : Nat) + (1 : Nat) ≤ List.length [AV.bool !true == bitAt c d p.1] ∧ p.1 ≤ List.length (F p.2)) ∧ inRange IntKind.i64 ((↑p.1 : Int) + (1 : Int)) ∧ ∃ (p' : Nat × List Bool), St.mk [AV.int IntKind.i64 w, .any, .any, .any, .any, .any, AV.ptr ((0 : Nat) + (1 : Nat) + (1 : Nat)) 0 0 true, AV.slice ((0 : Nat) + (1 : Nat) + (1 : Nat) + (1 : Nat)) 0 128 false, AV.slice ((0 : Nat) + (1 : Nat) + (1 : Nat) + (1 : Nat) + (1 : Nat)) 0 128 false, AV.vsl ((0 : Nat) + (1 : Nat) + (1 : Nat) + (1 : Nat) + (1 : Nat) + (1 : Nat)) 0 (p.1 + (1 : Nat)), AV.int IntKind.i64 ((↑p.1 : Int) + (1 : Int)), .any, .any, .any, .any, .any, .any, .any, .any, .any, .any, .any, .any, .any, .any, .any, .any, .any, .any, .any, .any, .any, .any, .any, .any, .any, .any, .any, .any, .any, .any, .any, .any, .any, .any, .any, .any, .any, .any, .any, .any, .any, .any, .any, .any, .any, .any, .any, .any] [none, none, some (Blk.mk true (24 : TypeId) 2 true [AV.agg [AV.lit (Value.int IntKind.u64 0), AV.lit (Value.int IntKind.u64 0)]]), some (Blk.mk true (4 : TypeId) 1 true (bitsOf a b)), some (Blk.mk true (4 : TypeId) 1 true (bitsOf c d)), some (Blk.mk true 4 1 true (List.take p.1 (F p.2) ++ List.take 1 (List.drop 0 [AV.bool !true == bitAt c d p.1])))] = opSt F w a b c d p' ∧ opI w a b c d p' ∧ (200 : Nat) - p'.1 < (200 : Nat) - p.1) ∧ ((w == (2 : Int)) = false → ((p.1 + (1 : Nat)) * (1 : Nat) ≤ (140737488355328 : Nat) ∧ p.1 + (1 : Nat) ≤ (9223372036854775807 : Nat) ∧ (0 : Nat) + (1 : Nat) ≤ List.length [AV.bool (bitAt c d p.1)] ∧ p.1 ≤ List.length (F p.2)) ∧ inRange IntKind.i64 ((↑p.1 : Int) + (1 : Int)) ∧ ∃ (p' : Nat × List Bool), St.mk [AV.int IntKind.i64 w, .any, .any, .any, .any, .any, AV.ptr ((0 : Nat) + (1 : Nat) + (1 : Nat)) 0 0 true, AV.slice ((0 : Nat) + (1 : Nat) + (1 : Nat) + (1 : Nat)) 0 128 false, AV.slice ((0 : Nat) + (1 : Nat) + (1 : Nat) + (1 : Nat) + (1 : Nat)) 0 128 false, AV.vsl ((0 : Nat) + (1 : Nat) + (1 : Nat) + (1 : Nat) + (1 : Nat) + (1 : Nat)) 0 (p.1 + (1 : Nat)), AV.int IntKind.i64 ((↑p.1 : Int) + (1 : Int)), .any, .any, .any, .any, .any, .any, .any, .any, .any, .any, .any, .any, .any, .any, .any, .any, .any, .any, .any, .any, .any, .any, .any, .any, .any, .any, .any, .any, .any, .any, .any, .any, .any, .any, .any, .any, .any, .any, .any, .any, .any, .any, .any, .any, .any, .any, .any, .any] [none, none, some (Blk.mk true (24 : TypeId) 2 true [AV.agg [AV.lit (Value.int IntKind.u64 0), AV.lit (Value.int IntKind.u64 0)]]), some (Blk.mk true (4 : TypeId) 1 true (bitsOf a b)), some (Blk.mk true (4 : TypeId) 1 true (bitsOf c d)), some (Blk.mk true 4 1 true (List.take p.1 (F p.2) ++ List.take 1 (List.drop 0 [AV.bool (bitAt c d p.1)])))] = opSt F w a b c d p' ∧ opI w a b c d p' ∧ (200 : Nat) - p'.1 < (200 : Nat) - p.1))) ∧ (bitAt a b p.1 = false → ((0 : Int) ≤ (↑p.1 : Int) ∧ (↑p.1 : Int) < (↑(128 : Nat) : Int)) ∧ Blk.read Proofs.Try.prog (Blk.mk true (4 : TypeId) 1 true (bitsOf a b)) 4 ((0 : Nat) + Int.toNat (↑p.1 : Int)) 0 = some (AV.bool false) ∧ false = false ∧ ((w == (1 : Int)) = true → ((0 : Int) ≤ (↑p.1 : Int) ∧ (↑p.1 : Int) < (↑(128 : Nat) : Int)) ∧ Blk.read Proofs.Try.prog (Blk.mk true (4 : TypeId) 1 true (bitsOf a b)) 4 ((0 : Nat) + Int.toNat (↑p.1 : Int)) 0 = some (AV.bool false) ∧ false = false ∧ ((0 : Int) ≤ (↑p.1 : Int) ∧ (↑p.1 : Int) < (↑(128 : Nat) : Int)) ∧ Blk.read Proofs.Try.prog (Blk.mk true (4 : TypeId) 1 true (bitsOf c d)) 4 ((0 : Nat) + Int.toNat (↑p.1 : Int)) 0 = some (AV.bool (bitAt c d p.1)) ∧ (w == (2 : Int)) = false ∧ ((p.1 + (1 : Nat)) * (1 : Nat) ≤ (140737488355328 : Nat) ∧ p.1 + (1 : Nat) ≤ (9223372036854775807 : Nat) ∧ (0 : Nat) + (1 : Nat) ≤ List.length [AV.bool (bitAt c d p.1)] ∧ p.1 ≤ List.length (F p.2)) ∧ inRange IntKind.i64 ((↑p.1 : Int) + (1 : Int)) ∧ ∃ (p' : Nat × List Bool), St.mk [AV.int IntKind.i64 w, .any, .any, .any, .any, .any, AV.ptr ((0 : Nat) + (1 : Nat) + (1 : Nat)) 0 0 true, AV.slice ((0 : Nat) + (1 : Nat) + (1 : Nat) + (1 : Nat)) 0 128 false, AV.slice ((0 : Nat) + (1 : Nat) + (1 : Nat) + (1 : Nat) + (1 : Nat)) 0 128 false, AV.vsl ((0 : Nat) + (1 : Nat) + (1 : Nat) + (1 : Nat) + (1 : Nat) + (1 : Nat)) 0 (p.1 + (1 : Nat)), AV.int IntKind.i64 ((↑p.1 : Int) + (1 : Int)), .any, .any, .any, .any, .any, .any, .any, .any, .any, .any, .any, .any, .any, .any, .any, .any, .any, .any, .any, .any, .any, .any, .any, .any, .any, .any, .any, .any, .any, .any, .any, .any, .any, .any, .any, .any, .any, .any, .any, .any, .any, .any, .any, .any, .any, .any, .any, .any] [none, none, some (Blk.mk true (24 : TypeId) 2 true [AV.agg [AV.lit (Value.int IntKind.u64 0), AV.lit (Value.int IntKind.u64 0)]]), some (Blk.mk true (4 : TypeId) 1 true (bitsOf a b)), some (Blk.mk true (4 : TypeId) 1 true (bitsOf c d)), some (Blk.mk true 4 1 true (List.take p.1 (F p.2) ++ List.take 1 (List.drop 0 [AV.bool (bitAt c d p.1)])))] = opSt F w a b c d p' ∧ opI w a b c d p' ∧ (200 : Nat) - p'.1 < (200 : Nat) - p.1) ∧ ((w == (1 : Int)) = false → ((w == (2 : Int)) = true → ((0 : Int) ≤ (↑p.1 : Int) ∧ (↑p.1 : Int) < (↑(128 : Nat) : Int)) ∧ Blk.read Proofs.Try.prog (Blk.mk true (4 : TypeId) 1 true (bitsOf a b)) 4 ((0 : Nat) + Int.toNat (↑p.1 : Int)) 0 = some (AV.bool false) ∧ ((0 : Int) ≤ (↑p.1 : Int) ∧ (↑p.1 : Int) < (↑(128 : Nat) : Int)) ∧ Blk.read Proofs.Try.prog (Blk.mk true (4 : TypeId) 1 true (bitsOf c d)) 4 ((0 : Nat) + Int.toNat (↑p.1 : Int)) 0 = some (AV.bool (bitAt c d p.1)) ∧ ((p.1 + (1 : Nat)) * (1 : Nat) ≤ (140737488355328 : Nat) ∧ p.1 + (1 : Nat) ≤ (9223372036854775807 : Nat) ∧ (0 : Nat) + (1 : Nat) ≤ List.length [AV.bool !false == bitAt c d p.1] ∧ p.1 ≤ List.length (F p.2)) ∧ inRange IntKind.i64 ((↑p.1 : Int) + (1 : Int)) ∧ ∃ (p' : Nat × List Bool), St.mk [AV.int IntKind.i64 w, .any, .any, .any, .any, .any, AV.ptr ((0 : Nat) + (1 : Nat) + (1 : Nat)) 0 0 true, AV.slice ((0 : Nat) + (1 : Nat) + (1 : Nat) + (1 : Nat)) 0 128 false, AV.slice ((0 : Nat) + (1 : Nat) + (1 : Nat) + (1 : Nat) + (1 : Nat)) 0 128 false, AV.vsl ((0 : Nat) + (1 : Nat) + (1 : Nat) + (1 : Nat) + (1 : Nat) + (1 : Nat)) 0 (p.1 + (1 : Nat)), AV.int IntKind.i64 ((↑p.1 : Int) + (1 : Int)), .any, .any, .any, .any, .any, .any, .any, .any, .any, .any, .any, .any, .any, .any, .any, .any, .any, .any, .any, .any, .any, .any, .any, .any, .any, .any, .any, .any, .any, .any, .any, .any, .any, .any, .any, .any, .any, .any, .any, .any, .any, .any, .any, .any, .any, .any, .any, .any] [none, none, some (Blk.mk true (24 : TypeId) 2 true [AV.agg [AV.lit (Value.int IntKind.u64 0), AV.lit (Value.int IntKind.u64 0)]]), some (Blk.mk true (4 : TypeId) 1 true (bitsOf a b)), some (Blk.mk true (4 : TypeId) 1 true (bitsOf c d)), some (Blk.mk true 4 1 true (List.take p.1 (F p.2) ++ List.take 1 (List.drop 0 [AV.bool !false == bitAt c d p.1])))] = opSt F w a b c d p' ∧ opI w a b c d p' ∧ (200 : Nat) - p'.1 < (200 : Nat) - p.1) ∧ ((w == (2 : Int)) = false → ((p.1 + (1 : Nat)) * (1 : Nat) ≤ (140737488355328 : Nat) ∧ p.1 + (1 : Nat) ≤ (9223372036854775807 : Nat) ∧ (0 : Nat) + (1 : Nat) ≤ List.length [AV.bool false] ∧ p.1 ≤ List.length (F p.2)) ∧ inRange IntKind.i64 ((↑p.1 : Int) + (1 : Int)) ∧ ∃ (p' : Nat × List Bool), St.mk [AV.int IntKind.i64 w, .any, .any, .any, .any, .any, AV.ptr ((0 : Nat) + (1 : Nat) + (1 : Nat)) 0 0 true, AV.slice ((0 : Nat) + (1 : Nat) + (1 : Nat) + (1 : Nat)) 0 128 false, AV.slice ((0 : Nat) + (1 : Nat) + (1 : Nat) + (1 : Nat) + (1 : Nat)) 0 128 false, AV.vsl ((0 : Nat) + (1 : Nat) + (1 : Nat) + (1 : Nat) + (1 : Nat) + (1 : Nat)) 0 (p.1 + (1 : Nat)), AV.int IntKind.i64 ((↑p.1 : Int) + (1 : Int)), .any, .any, .any, .any, .any, .any, .any, .any, .any, .any, .any, .any, .any, .any, .any, .any, .any, .any, .any, .any, .any, .any, .any, .any, .any, .any, .any, .any, .any, .any, .any, .any, .any, .any, .any, .any, .any, .any, .any, .any, .any, .any, .any, .any, .any, .any, .any, .any] [none, none, some (Blk.mk true (24 : TypeId) 2 true [AV.agg [AV.lit (Value.int IntKind.u64 0), AV.lit (Value.int IntKind.u64 0)]]), some (Blk.mk true (4 : TypeId) 1 true (bitsOf a b)), some (Blk.mk true (4 : TypeId) 1 true (bitsOf c d)), some (Blk.mk true 4 1 true (List.take p.1 (F p.2) ++ List.take 1 (List.drop 0 [AV.bool false])))] = opSt F w a b c d p' ∧ opI w a b c d p' ∧ (200 : Nat) - p'.1 < (200 : Nat) - p.1)))) ∧ (Decidable.decide ((↑p.1 : Int) < (128 : Int)) = false → (0 : Nat) + p.1 ≤ List.length (F p.2) ∧ ∃ (l : List Bool), List.take p.1 (List.drop 0 (F p.2)) = List.map AV.bool l ∧ List.length l = (128 : Nat) ∧ AV.agg (List.map canon1 (List.take 2 (List.drop 0 [AV.w64 (wd l 0 64), AV.w64 (wd l 64 64)]))) = r)) := by kernel_rfl

theorem app_row {l : List Bool} {n : Nat} (h : l.length = n) (v : Bool) : List.take n (l.map AV.bool) ++ List.take 1 (List.drop 0 [AV.bool v]) = (l ++ [v]).map AV.bool := by
  rw [List.take_of_length_le (by simp [h]), List.map_append]; rfl

theorem rowAt (a b : BitVec 64) {n : Nat} (hn : n < 128) : (bitsOf a b)[n]? = some (.bool (bitAt a b n)) := by
  unfold bitsOf
  rw [List.getElem?_map, List.getElem?_range hn]
  rfl

theorem read_bits {a b : BitVec 64} {k : Int} {v w : Bool} (h0 : 0 ≤ k) (hk : k < 128) (hv : bitAt a b k.toNat = v) : (Blk.mk w 4 1 true (bitsOf a b)).read Try.prog 4 (0 + k.toNat) 0 = some (.bool v) := by
  rw [← hv]
  exact read1 (rowAt a b (by omega)) (by kernel_rfl)

def opW (w : Int) (x y : BitVec 64) : BitVec 64 := if w = 2 then x ^^^ y else if w = 1 then x ||| y else x &&& y

theorem opW_msb (w : Int) (x y : BitVec 64) (i : Nat) : (opW w x y).getMsbD i = opB w (x.getMsbD i) (y.getMsbD i) := by
  unfold opW opB
  split
  · rw [BitVec.getMsbD_xor]
  · split
    · rw [BitVec.getMsbD_or]
    · rw [BitVec.getMsbD_and]

theorem wd_map {f : Nat → Bool} {x : BitVec 64} {o : Nat} (ho : o + 64 ≤ 128) (h : ∀ i, i < 64 → f (o + i) = x.getMsbD i) : wd ((List.range 128).map f) o 64 = x := by
  unfold wd
  refine W_eq fun i hi => ?_
  rw [← h i hi, List.getD_eq_getElem?_getD, List.getElem?_map, List.getElem?_range (by omega)]
  rfl

theorem wd_bits (f : Nat → Bool) (x y : BitVec 64) (h : ∀ k, k < 128 → f k = bitAt x y k) : wd ((List.range 128).map f) 0 64 = x ∧ wd ((List.range 128).map f) 64 64 = y := by
  refine ⟨wd_map (by omega) fun i hi => ?_, wd_map (by omega) fun i hi => ?_⟩
  · rw [h _ (by omega), bitAt, if_pos (by omega)]; simp
  · rw [h _ (by omega), bitAt, if_neg (by omega)]; simp

def opF : List Arg → (Res → Prop) → Prop
  | [.v (.int .i64 w), .v (.agg [.w64 a, .w64 b]), .v (.agg [.w64 c, .w64 d])], R => R (.v (.agg [.w64 (opW w a c), .w64 (opW w b d)]))
  | _, _ => False

theorem bitAt_op (w : Int) (a b c d : BitVec 64) {k : Nat} : opB w (bitAt a b k) (bitAt c d k) = bitAt (opW w a c) (opW w b d) k := by
  unfold bitAt
  split <;> rw [opW_msb]

theorem opCs_ok : ∀ e ∈ opCs, SpecOK Try.prog e.1 e.2 := by
  intro e he
  simp only [opCs, List.mem_cons, List.not_mem_nil, or_false] at he
  rcases he with rfl | rfl
  · exact bits_ok
  · exact words_ok

theorem op_ok : SpecOK Try.prog 59 (genSpec [none, none, none] opF) := by
  refine genSpec_ok (run_ok (l := opCs) opCs_ok mixed noNG) fun l R hF => ?_
  unfold opF at hF
  split at hF
  · rename_i w a b c d
    refine ⟨_, hF, rfl, opH (List.map .bool) w a b c d, ?_⟩
    show run opCs Try.prog _ [.int .i64 w, .agg [.w64 a, .w64 b], .agg [.w64 c, .w64 d]] [] _ _
    rw [op_run]
    refine ⟨⟨rfl, by decide, rfl⟩, ?_⟩
    rintro ⟨n, l⟩ ⟨h1, h2⟩
    simp only at h1 h2
    have hl : l.length = n := by rw [h2]; simp
    have nx : ∀ v, n < 128 → v = opB w (bitAt a b n) (bitAt c d n) → ∃ p' : Nat × List Bool, opSt (List.map .bool) w a b c d (n + 1, l ++ [v]) = opSt (List.map .bool) w a b c d p' ∧ opI w a b c d p' ∧ 200 - p'.1 < 200 - n := by
      intro v hn hv
      refine ⟨(n + 1, l ++ [v]), rfl, ⟨by simp only; omega, ?_⟩, by simp only; omega⟩
      simp only
      rw [List.range_succ, List.map_append, h2, hv]; rfl
    refine ⟨fun hlt => ?_, fun hge => ?_⟩
    · have hn : n < 128 := by simp only [decide_eq_true_eq] at hlt; omega
      have B : 0 ≤ (n : Int) ∧ (n : Int) < ((128 : Nat) : Int) := by omega
      have rA : ∀ v, bitAt a b n = v → _ := fun v hv => read_bits (a := a) (b := b) (k := n) (v := v) (w := true) B.1 (by omega) hv
      have rC := read_bits (a := c) (b := d) (k := n) (w := true) B.1 (by omega) rfl
      have ap : (n + 1) * 1 ≤ 140737488355328 ∧ n + 1 ≤ 9223372036854775807 ∧ 0 + 1 ≤ 1 ∧ n ≤ (l.map AV.bool).length := by rw [List.length_map, hl]; omega
      have e : inRange .i64 ((n : Int) + 1) := inR (by omega) (by omega)
      have w12 : (w == 1) = true → (w == 2) = false := fun h => by rw [beq_iff_eq] at h; subst h; rfl
      refine ⟨fun ha => ⟨B, rA _ ha, rfl, B, rC, fun hw => ⟨B, rA _ ha, rfl, w12 hw, ap, e, ?_⟩, fun hw => ⟨fun hw2 => ⟨B, rA _ ha, B, rC, ap, e, ?_⟩, fun hw2 => ⟨ap, e, ?_⟩⟩⟩,
        fun ha => ⟨B, rA _ ha, rfl, fun hw => ⟨B, rA _ ha, rfl, B, rC, w12 hw, ap, e, ?_⟩, fun hw => ⟨fun hw2 => ⟨B, rA _ ha, B, rC, ap, e, ?_⟩, fun hw2 => ⟨ap, e, ?_⟩⟩⟩⟩
      all_goals
        rw [app_row hl]
        refine nx _ hn ?_
        try replace hw2 := hw2
        simp only at ha
        simp only [beq_iff_eq, beq_eq_false_iff_ne, ne_eq] at hw
        try simp only [beq_iff_eq, beq_eq_false_iff_ne, ne_eq] at hw2
        unfold opB
        rw [ha]
        simp [*]
    · have hn : n = 128 := by simp only [decide_eq_false_iff_not] at hge; omega
      subst hn
      have e : List.take 128 (List.drop 0 (l.map AV.bool)) = l.map AV.bool := by rw [List.drop_zero, List.take_of_length_le (by simp [hl])]
      refine ⟨by rw [List.length_map, hl]; omega, l, e, hl, ?_⟩
      obtain ⟨e1, e2⟩ := wd_bits (fun k => opB w (bitAt a b k) (bitAt c d k)) (opW w a c) (opW w b d) fun k _ => bitAt_op w a b c d
      rw [h2, e1, e2]
      rfl
  · exact hF.elim

end Go.Proofs.Ytmkppicnbjoijaa.L1
end

section
/-
  Layer 1: contracts of the document's and the program's Mask, and of Cut.
-/
namespace Go.Proofs.Ytmkppicnbjoijaa.L1
open Go.Sx Go.Sx.M

/-- A word with its first n bits set. -/
def mkW (n : Int) : BitVec 64 := W (fun i => decide ((i : Int) < n)) 64

theorem mkW_msb (n : Int) {i : Nat} (hi : i < 64) : (mkW n).getMsbD i = decide ((i : Int) < n) := W_msb _ hi

theorem bitAt_mk (n : Int) {k : Nat} (hk : k < 128) : bitAt (mkW n) (mkW (n - 64)) k = decide ((k : Int) < n) := by
  unfold bitAt
  split
  · rw [mkW_msb n (by omega)]
  · rw [mkW_msb _ (by omega)]
    congr 1
    apply propext
    omega

def maskF : List Arg → (Res → Prop) → Prop
  | [.v (.int .i64 n)], R => R (.v (.agg [.w64 (mkW n), .w64 (mkW (n - 64))]))
  | _, _ => False

theorem amask_run (n : Int) (r : AV) : run [] Try.prog 63 [.int .i64 n] [] [.nw] (yields (.v r)) =
    (((0 : Int) ≤ if 64 < if 128 < if 0 > n then 0 else n then 128 else if 0 > n then 0 else n then 64 else if 128 < if 0 > n then 0 else n then 128 else if 0 > n then 0 else n) ∧ Go.Sx.inRange Go.IntKind.i64 ((if 128 < if 0 > n then 0 else n then 128 else if 0 > n then 0 else n) - if 64 < if 128 < if 0 > n then 0 else n then 128 else if 0 > n then 0 else n then 64 else if 128 < if 0 > n then 0 else n then 128 else if 0 > n then 0 else n) ∧ ((0 : Int) ≤ (if 128 < if 0 > n then 0 else n then 128 else if 0 > n then 0 else n) - if 64 < if 128 < if 0 > n then 0 else n then 128 else if 0 > n then 0 else n then 64 else if 128 < if 0 > n then 0 else n then 128 else if 0 > n then 0 else n) ∧ Go.Sx.AV.agg (List.map Go.Sx.canon1 (List.take 2 (List.drop 0 [Go.Sx.AV.w64 (~~~(BitVec.ofInt 64 18446744073709551615 >>> Int.toNat (if 64 < if 128 < if 0 > n then 0 else n then 128 else if 0 > n then 0 else n then 64 else if 128 < if 0 > n then 0 else n then 128 else if 0 > n then 0 else n))), Go.Sx.AV.w64 (~~~(BitVec.ofInt 64 18446744073709551615 >>> Int.toNat ((if 128 < if 0 > n then 0 else n then 128 else if 0 > n then 0 else n) - if 64 < if 128 < if 0 > n then 0 else n then 128 else if 0 > n then 0 else n then 64 else if 128 < if 0 > n then 0 else n then 128 else if 0 > n then 0 else n)))]))) = r) := by kernel_rfl

/-- From 0 to 128. -/
def clamp (n : Int) : Int := max 0 (min n 128)

theorem clamp_eq (n : Int) : (if 128 < (if 0 > n then 0 else n) then 128 else if 0 > n then 0 else n) = clamp n := by
  unfold clamp
  split <;> split <;> omega

theorem top_mk {n : Int} (h0 : 0 ≤ n) : ~~~(BitVec.ofInt 64 18446744073709551615 >>> n.toNat) = mkW n := by
  refine msb_eq fun i hi => ?_
  rw [mkW_msb n hi, BitVec.getMsbD_not, BitVec.getMsbD_ushiftRight, show BitVec.ofInt 64 18446744073709551615 = BitVec.allOnes 64 from by decide, BitVec.getMsbD_allOnes]
  by_cases h : (i : Int) < n
  · simp [h, hi, show i < n.toNat from by omega]
  · simp [h, hi, show ¬ i < n.toNat from by omega]
    omega

theorem mkW_congr {n m : Int} (h : ∀ i : Nat, i < 64 → ((i : Int) < n ↔ (i : Int) < m)) : mkW n = mkW m :=
  msb_eq fun i hi => by rw [mkW_msb _ hi, mkW_msb _ hi]; congr 1; exact propext (h i hi)

theorem amask_ok : SpecOK Try.prog 63 (genSpec [none] maskF) := by
  refine genSpec_ok none_ok fun l R hF => ?_
  unfold maskF at hF
  split at hF
  · rename_i n
    refine ⟨_, hF, rfl, [.nw], ?_⟩
    show run [] Try.prog _ [.int .i64 n] [] _ _
    rw [amask_run]
    simp only [clamp_eq]
    have hc : (if 64 < clamp n then 64 else clamp n) = min (clamp n) 64 := by split <;> omega
    rw [hc]
    have b : 0 ≤ clamp n ∧ clamp n ≤ 128 := by unfold clamp; omega
    refine ⟨by omega, inR (by omega) (by omega), by omega, ?_⟩
    show AV.agg [.w64 _, .w64 _] = _
    rw [top_mk (by omega), top_mk (by omega)]
    rw [show mkW (min (clamp n) 64) = mkW n from mkW_congr fun i hi => by unfold clamp; omega,
      show mkW (clamp n - min (clamp n) 64) = mkW (n - 64) from mkW_congr fun i hi => by unfold clamp; omega]
  · exact hF.elim

noncomputable def cutCs : List (FuncId × Sx.Spec) := [(63, genSpec [none] maskF)]

theorem cutCs_ok : ∀ e ∈ cutCs, SpecOK Try.prog e.1 e.2 := by
  intro e he
  simp only [cutCs, List.mem_cons, List.not_mem_nil, or_false] at he
  rcases he with rfl
  exact amask_ok

def cutF : List Arg → (Res → Prop) → Prop
  | [.v (.agg [.w64 a, .w64 b]), .v (.int .i64 n)], R => R (.v (.agg [.w64 (a &&& mkW n), .w64 (b &&& mkW (n - 64))]))
  | _, _ => False

theorem cut_run (a b : BitVec 64) (n : Int) (r : AV) : run cutCs Try.prog 64 [.agg [.w64 a, .w64 b], .int .i64 n] [] [] (yields (.v r)) =
    (Go.Sx.AV.agg (List.map Go.Sx.canon1 (List.take (2 : Nat) (List.drop (0 : Nat) [Go.Sx.AV.w64 (a &&& Go.Proofs.Ytmkppicnbjoijaa.L1.mkW n), Go.Sx.AV.w64 (b &&& Go.Proofs.Ytmkppicnbjoijaa.L1.mkW (n - (64 : Int)))]))) = r) := by kernel_rfl

theorem cut_ok : SpecOK Try.prog 64 (genSpec [none, none] cutF) := by
  refine genSpec_ok (run_ok (l := cutCs) cutCs_ok mixed noNG) fun l R hF => ?_
  unfold cutF at hF
  split at hF
  · rename_i a b n
    refine ⟨_, hF, rfl, [], ?_⟩
    show run cutCs Try.prog _ [.agg [.w64 a, .w64 b], .int .i64 n] [] _ _
    rw [cut_run]
    first | rfl | exact ⟨rfl, rfl⟩
  · exact hF.elim

end Go.Proofs.Ytmkppicnbjoijaa.L1
end

section
/-
  Layer 1: contracts of the program's Bit and With.
-/
namespace Go.Proofs.Ytmkppicnbjoijaa.L1
open Go.Sx Go.Sx.M

end Go.Proofs.Ytmkppicnbjoijaa.L1
end

section
/-
  Layer 1: contracts of LeadingZeros64, and of the document's and the program's Common and Compare.
-/
namespace Go.Proofs.Ytmkppicnbjoijaa.L1
open Go.Sx Go.Sx.M

end Go.Proofs.Ytmkppicnbjoijaa.L1
end

section
/-
  Layer 1: contracts of the document's and the program's Common and Compare.
-/
namespace Go.Proofs.Ytmkppicnbjoijaa.L1
open Go.Sx Go.Sx.M

def comF : List Arg → (Res → Prop) → Prop
  | [.v (.agg [.w64 a, .w64 b]), .v (.agg [.w64 c, .w64 d])], R => R (.v (.int .i64 (com (bitAt a b) (bitAt c d) : Nat)))
  | _, _ => False

theorem acmp_run (a b c d : BitVec 64) (r : AV) : run [] Try.prog 79 [.agg [.w64 a, .w64 b], .agg [.w64 c, .w64 d]] [] [.fork [.br false, .br false, .fork [] [.fork [] []]] [.br false, .br false, .fork [] [.fork [] []]]] (yields (.v r)) =
    (((a != c) = Bool.true → (a != a) = Bool.false ∧ (c != c) = Bool.false ∧ (Decidable.decide (a < c) = Bool.true → Go.Sx.AV.int Go.IntKind.i64 (-1 : Int) = r) ∧ (Decidable.decide (a < c) = Bool.false → (Decidable.decide (c < a) = Bool.true → Go.Sx.AV.int Go.IntKind.i64 (1 : Int) = r) ∧ (Decidable.decide (c < a) = Bool.false → Go.Sx.AV.int Go.IntKind.i64 (0 : Int) = r))) ∧ ((a != c) = Bool.false → (b != b) = Bool.false ∧ (d != d) = Bool.false ∧ (Decidable.decide (b < d) = Bool.true → Go.Sx.AV.int Go.IntKind.i64 (-1 : Int) = r) ∧ (Decidable.decide (b < d) = Bool.false → (Decidable.decide (d < b) = Bool.true → Go.Sx.AV.int Go.IntKind.i64 (1 : Int) = r) ∧ (Decidable.decide (d < b) = Bool.false → Go.Sx.AV.int Go.IntKind.i64 (0 : Int) = r)))) := by kernel_rfl

def cmpF : List Arg → (Res → Prop) → Prop
  | [.v (.agg [.w64 a, .w64 b]), .v (.agg [.w64 c, .w64 d])], R => R (.v (.int .i64 (cmpV (V a b) (V c d))))
  | _, _ => False

theorem acmp_ok : SpecOK Try.prog 79 (genSpec [none, none] cmpF) := by
  refine genSpec_ok none_ok fun l R hF => ?_
  unfold cmpF at hF
  split at hF
  · rename_i a b c d
    refine ⟨_, hF, rfl, [.fork [.br false, .br false, .fork [] [.fork [] []]] [.br false, .br false, .fork [] [.fork [] []]]], ?_⟩
    show run [] Try.prog _ [.agg [.w64 a, .w64 b], .agg [.w64 c, .w64 d]] [] _ _
    rw [acmp_run]
    have hb := b.isLt
    have hd := d.isLt
    have self : ∀ x : BitVec 64, (x != x) = false := fun x => by simp
    refine ⟨fun h => ⟨self a, self c, fun h1 => ?_, fun h1 => ⟨fun h2 => ?_, fun h2 => ?_⟩⟩, fun h => ⟨self b, self d, fun h1 => ?_, fun h1 => ⟨fun h2 => ?_, fun h2 => ?_⟩⟩⟩
    all_goals
      simp only [bne_iff_ne, ne_eq, decide_eq_true_eq, decide_eq_false_iff_not, BitVec.lt_def, ← BitVec.toNat_inj, bne_eq_false_iff_eq] at *
      congr 1
      unfold cmpV V
    · rw [if_neg (by omega), if_pos (by omega)]
    · rw [if_neg (by omega), if_neg (by omega)]
    · omega
    · rw [if_neg (by omega), if_pos (by omega)]
    · rw [if_neg (by omega), if_neg (by omega)]
    · rw [if_pos (by omega)]
  · exact hF.elim

end Go.Proofs.Ytmkppicnbjoijaa.L1
end

