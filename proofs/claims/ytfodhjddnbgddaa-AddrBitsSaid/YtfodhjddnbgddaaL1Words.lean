/-
  Layer 1: the document's Words: two words of 128 bits.
-/
import Derived.Test.YtfodhjddnbgddaaL1Ref
namespace Go.Proofs.Ytfodhjddnbgddaa.L1
open Go.Sx Go.Sx.M

noncomputable def wordsBody : Code := bodyOf Try.prog 22 0

def boolRow (es : List AV) : Option Blk := some ⟨false, 4, 1, true, es⟩

def wordsSt (es : List AV) (st : Bool) (k : Int) (x y : BitVec 64) : St := ⟨[.slice 0 0 128 st, .any, .ptr 1 0 0 true, .ptr 2 0 0 true, .int .i64 k] ++ List.replicate 25 .any,
  [boolRow es, some ⟨true, 23, 2, true, [.agg [.lit (.int .u64 0), .lit (.int .u64 0)]]⟩, some ⟨true, 23, 2, true, [.agg [.w64 x, .w64 y]]⟩]⟩

def wordsM0 : Modes := ⟨[1, 0, 1, 1, 2] ++ List.replicate 25 0, [0, 1, 2], [1, 1, 2]⟩
def wordsM : Modes := ⟨[1, 0, 1, 1, 1] ++ List.replicate 25 0, [0, 1, 2], [1, 1, 1]⟩

theorem words_cut (es : List AV) (st : Bool) (L : LH) (K : AV → Hp → List Hint → Prop) :
    ∃ s0, evFnG [L] (run [] Try.prog) Try.prog 22 [.slice 0 0 128 st] [boolRow es] [.inv] K =
      L wordsBody s0 [.inv] (fun e s hs => evFnG [passed e s hs] (run [] Try.prog) Try.prog 22 [.slice 0 0 128 st] [boolRow es] [.inv] K) ∧ weakSt 1 wordsM0 s0 = some (wordsSt es st 0 0#64 0#64) :=
  ⟨⟨[.slice 0 0 128 st, .lit undef, .ptr 1 0 0 true, .ptr 2 0 0 true, .lit (.int .i64 0)] ++ List.replicate 25 (.lit undef),
    [boolRow es, some ⟨true, 23, 2, true, [.agg [.lit (.int .u64 0), .lit (.int .u64 0)]]⟩, some ⟨true, 23, 2, true, [.agg [.lit (.int .u64 0), .lit (.int .u64 0)]]⟩]⟩, by kernel_rfl, by kernel_rfl⟩

theorem words_exit (es : List AV) (st : Bool) (k : Int) (x y : BitVec 64) (N : Prop) (K : Ex → St → List Hint → Prop) (hs : List Hint) :
    ev (run [] Try.prog) Try.prog 1 wordsBody (wordsSt es st k x y) [.br false] (roundEnd 1 wordsM (wordsSt es st k x y) N K hs) =
      (decide (k < 128) = false ∧ some (wordsSt es st k x y) = some (wordsSt es st k x y) ∧ K (.exit 0) (wordsSt es st k x y) hs) := by kernel_rfl

theorem words_0f (es : List AV) (st : Bool) (k : Int) (x y : BitVec 64) (N : Prop) (K : Ex → St → List Hint → Prop) (hs : List Hint) :
    ev (run [] Try.prog) Try.prog 1 wordsBody (wordsSt es st k x y) [.br true, .nw, .nw, .ix 0, .ix 0, .dy, .cell (.bool false), .br false, .nw] (roundEnd 1 wordsM (wordsSt es st (k + 1) (x * 2#64) y) N K hs) =
      (decide (k < 128) = true ∧ inRange .i64 (k.tdiv 64) ∧ inRange .i64 (k.tdiv 64) ∧ k.tdiv 64 = ((0 : Nat) : Int) ∧ k.tdiv 64 = ((0 : Nat) : Int) ∧ (0 ≤ k ∧ k < ((128 : Nat) : Int)) ∧ (Blk.mk false 4 1 true es).read Try.prog 4 (0 + k.toNat) 0 = some (.bool false) ∧ false = false ∧
        inRange .i64 (k + 1) ∧ some (wordsSt es st (k + 1) (x * 2#64) y) = some (wordsSt es st (k + 1) (x * 2#64) y) ∧ N) := by kernel_rfl

theorem words_1f (es : List AV) (st : Bool) (k : Int) (x y : BitVec 64) (N : Prop) (K : Ex → St → List Hint → Prop) (hs : List Hint) :
    ev (run [] Try.prog) Try.prog 1 wordsBody (wordsSt es st k x y) [.br true, .nw, .nw, .ix 1, .ix 1, .dy, .cell (.bool false), .br false, .nw] (roundEnd 1 wordsM (wordsSt es st (k + 1) x (y * 2#64)) N K hs) =
      (decide (k < 128) = true ∧ inRange .i64 (k.tdiv 64) ∧ inRange .i64 (k.tdiv 64) ∧ k.tdiv 64 = ((1 : Nat) : Int) ∧ k.tdiv 64 = ((1 : Nat) : Int) ∧ (0 ≤ k ∧ k < ((128 : Nat) : Int)) ∧ (Blk.mk false 4 1 true es).read Try.prog 4 (0 + k.toNat) 0 = some (.bool false) ∧ false = false ∧
        inRange .i64 (k + 1) ∧ some (wordsSt es st (k + 1) x (y * 2#64)) = some (wordsSt es st (k + 1) x (y * 2#64)) ∧ N) := by kernel_rfl

theorem words_0t (es : List AV) (st : Bool) (k : Int) (x y : BitVec 64) (N : Prop) (K : Ex → St → List Hint → Prop) (hs : List Hint) :
    ev (run [] Try.prog) Try.prog 1 wordsBody (wordsSt es st k x y) [.br true, .nw, .nw, .ix 0, .ix 0, .dy, .cell (.bool true), .br true, .nw, .nw, .ix 0, .ix 0, .nw] (roundEnd 1 wordsM (wordsSt es st (k + 1) (x * 2#64 + 1#64) y) N K hs) =
      (decide (k < 128) = true ∧ inRange .i64 (k.tdiv 64) ∧ inRange .i64 (k.tdiv 64) ∧ k.tdiv 64 = ((0 : Nat) : Int) ∧ k.tdiv 64 = ((0 : Nat) : Int) ∧ (0 ≤ k ∧ k < ((128 : Nat) : Int)) ∧ (Blk.mk false 4 1 true es).read Try.prog 4 (0 + k.toNat) 0 = some (.bool true) ∧ true = true ∧
        inRange .i64 (k.tdiv 64) ∧ inRange .i64 (k.tdiv 64) ∧ k.tdiv 64 = ((0 : Nat) : Int) ∧ k.tdiv 64 = ((0 : Nat) : Int) ∧ inRange .i64 (k + 1) ∧ some (wordsSt es st (k + 1) (x * 2#64 + 1#64) y) = some (wordsSt es st (k + 1) (x * 2#64 + 1#64) y) ∧ N) := by kernel_rfl

theorem words_1t (es : List AV) (st : Bool) (k : Int) (x y : BitVec 64) (N : Prop) (K : Ex → St → List Hint → Prop) (hs : List Hint) :
    ev (run [] Try.prog) Try.prog 1 wordsBody (wordsSt es st k x y) [.br true, .nw, .nw, .ix 1, .ix 1, .dy, .cell (.bool true), .br true, .nw, .nw, .ix 1, .ix 1, .nw] (roundEnd 1 wordsM (wordsSt es st (k + 1) x (y * 2#64 + 1#64)) N K hs) =
      (decide (k < 128) = true ∧ inRange .i64 (k.tdiv 64) ∧ inRange .i64 (k.tdiv 64) ∧ k.tdiv 64 = ((1 : Nat) : Int) ∧ k.tdiv 64 = ((1 : Nat) : Int) ∧ (0 ≤ k ∧ k < ((128 : Nat) : Int)) ∧ (Blk.mk false 4 1 true es).read Try.prog 4 (0 + k.toNat) 0 = some (.bool true) ∧ true = true ∧
        inRange .i64 (k.tdiv 64) ∧ inRange .i64 (k.tdiv 64) ∧ k.tdiv 64 = ((1 : Nat) : Int) ∧ k.tdiv 64 = ((1 : Nat) : Int) ∧ inRange .i64 (k + 1) ∧ some (wordsSt es st (k + 1) x (y * 2#64 + 1#64)) = some (wordsSt es st (k + 1) x (y * 2#64 + 1#64)) ∧ N) := by kernel_rfl

theorem words_end (es : List AV) (st : Bool) (k : Int) (x y : BitVec 64) (r : AV) :
    evFnG [passed (.exit 0) (wordsSt es st k x y) []] (run [] Try.prog) Try.prog 22 [.slice 0 0 128 st] [boolRow es] [.inv] (yields (.v r)) =
      (AV.agg [.w64 x, .w64 y] = r) := by kernel_rfl

def wordsF : List Arg → (Res → Prop) → Prop
  | [.row 4 1 es _], R => ∃ l : List Bool, es = l.map .bool ∧ l.length = 128 ∧ R (.v (.agg [.w64 (W (fun i => l.getD i false) 64), .w64 (W (fun i => l.getD (64 + i) false) 64)]))
  | _, _ => False

def cnt4 (s : St) : Nat := (200 - slotInt 4 s).toNat

theorem words_loop (l : List Bool) (hl : l.length = 128) (st : Bool) (K : Ex → St → List Hint → Prop) (s0 : St) (h0 : weakSt 1 wordsM0 s0 = some (wordsSt (l.map .bool) st 0 0#64 0#64))
    (hK : K (.exit 0) (wordsSt (l.map .bool) st 128 (W (fun i => l.getD i false) 64) (W (fun i => l.getD (64 + i) false) 64)) []) :
    std (run [] Try.prog) Try.prog 1 wordsBody s0 [.inv] K := by
  let f : Nat → Bool := fun i => l.getD i false
  let g : Nat → Bool := fun i => l.getD (64 + i) false
  refine std_inv (fun s => ∃ k : Nat, k ≤ 128 ∧ s = wordsSt (l.map .bool) st k (W f (min k 64)) (W g (k - 64))) cnt4 ⟨wordsM0, _, h0, 0, by omega, rfl⟩ ?_
  rintro s ⟨k, hk, rfl⟩
  rcases Nat.lt_or_eq_of_le hk with hlt | rfl
  · have hb : (Blk.mk false 4 1 true (l.map .bool)).read Try.prog 4 (0 + (k : Int).toNat) 0 = some (.bool (l.getD k false)) := by
      refine read1 ?_ (by kernel_rfl)
      simp [List.getElem?_map, List.getD_eq_getElem?_getD, show k < l.length from by omega]
    have e0 : decide ((k : Int) < 128) = true := by simp; omega
    have e1 : inRange .i64 ((k : Int).tdiv 64) := by rw [tdiv64]; exact inR (by omega) (by omega)
    have e2 : inRange .i64 ((k : Int) + 1) := inR (by omega) (by omega)
    have e3 : 0 ≤ (k : Int) ∧ (k : Int) < ((128 : Nat) : Int) := by omega
    have em : ∀ x y, cnt4 (wordsSt (l.map .bool) st ((k : Int) + 1) x y) < cnt4 (wordsSt (l.map .bool) st k (W f (min k 64)) (W g (k - 64))) := fun x y => by
      show (200 - ((k : Int) + 1)).toNat < (200 - (k : Int)).toNat; omega
    by_cases h64 : k < 64
    · have e4 : (k : Int).tdiv 64 = ((0 : Nat) : Int) := by rw [tdiv64]; omega
      have w1 : W f (min (k + 1) 64) = if f k then W f (min k 64) * 2#64 + 1#64 else W f (min k 64) * 2#64 := by
        rw [Nat.min_eq_left (by omega), Nat.min_eq_left (by omega)]; rfl
      have w2 : W g (k + 1 - 64) = W g (k - 64) := by rw [show k + 1 - 64 = 0 from by omega, show k - 64 = 0 from by omega]
      cases hf : l.getD k false with
      | false =>
        refine ⟨_, _, _, (words_0f (l.map .bool) st k _ _ _ K []).mpr ⟨e0, e1, e1, e4, e4, e3, by rw [hb, hf], rfl, e2, rfl, ⟨k + 1, by omega, ?_⟩, em _ _⟩⟩
        rw [w1, w2, show f k = false from hf]; rfl
      | true =>
        refine ⟨_, _, _, (words_0t (l.map .bool) st k _ _ _ K []).mpr ⟨e0, e1, e1, e4, e4, e3, by rw [hb, hf], rfl, e1, e1, e4, e4, e2, rfl, ⟨k + 1, by omega, ?_⟩, em _ _⟩⟩
        rw [w1, w2, show f k = true from hf]; rfl
    · have e4 : (k : Int).tdiv 64 = ((1 : Nat) : Int) := by rw [tdiv64]; omega
      have hg : g (k - 64) = l.getD k false := by show l.getD (64 + (k - 64)) false = _; rw [show 64 + (k - 64) = k from by omega]
      have w1 : W f (min (k + 1) 64) = W f (min k 64) := by rw [Nat.min_eq_right (by omega), Nat.min_eq_right (by omega)]
      have w2 : W g (k + 1 - 64) = if g (k - 64) then W g (k - 64) * 2#64 + 1#64 else W g (k - 64) * 2#64 := by
        rw [show k + 1 - 64 = (k - 64) + 1 from by omega]; rfl
      cases hf : l.getD k false with
      | false =>
        refine ⟨_, _, _, (words_1f (l.map .bool) st k _ _ _ K []).mpr ⟨e0, e1, e1, e4, e4, e3, by rw [hb, hf], rfl, e2, rfl, ⟨k + 1, by omega, ?_⟩, em _ _⟩⟩
        rw [w1, w2, hg, hf]; rfl
      | true =>
        refine ⟨_, _, _, (words_1t (l.map .bool) st k _ _ _ K []).mpr ⟨e0, e1, e1, e4, e4, e3, by rw [hb, hf], rfl, e1, e1, e4, e4, e2, rfl, ⟨k + 1, by omega, ?_⟩, em _ _⟩⟩
        rw [w1, w2, hg, hf]; rfl
  · exact ⟨_, _, _, (words_exit (l.map .bool) st 128 _ _ _ K []).mpr ⟨by decide, rfl, hK⟩⟩

theorem words_ok : SpecOK Try.prog 22 (genSpec wordsF) := by
  refine genSpec_ok (loopy_ok none_ok mixed noNG) fun args R hF => ?_
  unfold wordsF at hF
  split at hF
  · rename_i es st
    obtain ⟨l, rfl, hl, hR⟩ := hF
    refine ⟨_, hR, rfl, [.inv], [std (run [] Try.prog) Try.prog 1], fun L hL => by simp only [List.mem_cons, List.not_mem_nil, or_false] at hL; subst hL; exact std_ok none_ok mixed 1, ?_⟩
    have hlen : (l.map AV.bool).length = 128 := by simpa using hl
    show evFnG _ _ _ _ [.slice 0 0 (l.map AV.bool).length st] [boolRow (l.map .bool)] [.inv] _
    rw [hlen]
    obtain ⟨s0, hc, h0⟩ := words_cut (l.map .bool) st (std (run [] Try.prog) Try.prog 1) (yields (.v (.agg [.w64 (W (fun i => l.getD i false) 64), .w64 (W (fun i => l.getD (64 + i) false) 64)])))
    rw [hc]
    refine words_loop l hl st _ s0 h0 ?_
    rw [words_end]
  · exact hF.elim

end Go.Proofs.Ytfodhjddnbgddaa.L1
