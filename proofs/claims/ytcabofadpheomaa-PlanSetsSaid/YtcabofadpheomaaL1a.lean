/-
  Texts in one: L1Base L1Ref L1Op L1Mask L1Bit L1Com L1Cmp.
-/
import Derived.Test.YtcabofadpheomaaSxL
import Derived.Test.YtcabofadpheomaaMo
import Derived.Test.YtcabofadpheomaaRows
import Derived.Test.YtcabofadpheomaaSxM
import Derived.Test.YtcabofadpheomaaMa

section
/-
  Layer 1: what all of its laws' proofs use.
-/
namespace Go.Proofs.Ytcabofadpheomaa.L1
open Go.Sx

theorem own : ownKnob Try.prog.godebug = none := by kernel_rfl
theorem laidOut : laidOutB Try.prog = true := by kernel_rfl
theorem noNG : Sx.noNG Try.prog = true := by kernel_rfl
theorem mixed : Fol Try.prog := ⟨by kernel_rfl, maps_ok⟩

theorem none_ok : COK Try.prog false (run [] Try.prog) := run_ok (by simp) mixed noNG

end Go.Proofs.Ytcabofadpheomaa.L1
end

section
/-
  Layer 1: contracts of the document's own functions Bits and Words.
-/
namespace Go.Proofs.Ytcabofadpheomaa.L1
open Go.Sx Go.Sx.M

def pBool : Par := some (4, 1)

/-- Bits: the 128 bits of an address, from the left. -/
def bitsOf (a b : BitVec 64) : List AV := (List.range 128).map fun k => .bool (bitAt a b k)

def bitsF : List Arg → (Res → Prop) → Prop
  | [.v (.agg [.w64 a, .w64 b])], R => R (.row 4 1 (bitsOf a b))
  | _, _ => False

theorem bits_run (a b : BitVec 64) : run [] Try.prog 71 [.agg [.w64 a, .w64 b]] [] [.loop 3, .loop 65, .loop 65] (yields (.row 4 1 (bitsOf a b))) =
    (128 = (bitsOf a b).length ∧ some (Blk.mk true 4 1 true ((List.range 128).map fun k => .bool (bitDiv a b k))) = some (Blk.mk true 4 1 true (bitsOf a b))) := by
  kernel_rfl

theorem bits_ok : SpecOK Try.prog 71 (genSpec [none] bitsF) := by
  refine genSpec_ok none_ok fun l R hF => ?_
  unfold bitsF at hF
  split at hF
  · rename_i a b
    refine ⟨_, hF, trivial, [.loop 3, .loop 65, .loop 65], ?_⟩
    show run [] Try.prog _ [.agg [.w64 a, .w64 b]] [] [.loop 3, .loop 65, .loop 65] _
    rw [bits_run]
    refine ⟨by simp [bitsOf], ?_⟩
    congr 2
    unfold bitsOf
    apply List.map_congr_left
    intro k hk
    rw [bitDiv_eq (by simpa using hk)]
  · exact hF.elim

/-- The two words of a row of bools. -/
def wd (l : List Bool) (o : Nat) (n : Nat) : BitVec 64 := W (fun i => l.getD (o + i) false) n

def wordsSt (l : List Bool) (p : Int × BitVec 64 × BitVec 64) : St := ⟨[.vsl 0 0 128, .any, .ptr 1 0 0 true, .ptr 2 0 0 true, .int .i64 p.1] ++ List.replicate 25 .any,
  [some ⟨false, 4, 1, true, l.map .bool⟩, some ⟨true, 24, 2, true, [.agg [.lit (.int .u64 0), .lit (.int .u64 0)]]⟩, some ⟨true, 24, 2, true, [.agg [.w64 p.2.1, .w64 p.2.2]]⟩]⟩

def wordsM0 : Modes := ⟨[1, 0, 1, 1, 2] ++ List.replicate 25 0, [0, 1, 2], [1, 1, 2], [], []⟩
def wordsM : Modes := ⟨[1, 0, 1, 1, 1] ++ List.replicate 25 0, [0, 1, 2], [1, 1, 1], [], []⟩

def wordsI (l : List Bool) (p : Int × BitVec 64 × BitVec 64) : Prop := 0 ≤ p.1 ∧ p.1 ≤ 128 ∧ p.2.1 = wd l 0 (min p.1.toNat 64) ∧ p.2.2 = wd l 64 (p.1.toNat - 64)

def wordsH (l : List Bool) : List Hint := [.linv _ (0, 0#64, 0#64) (wordsSt l) (wordsI l) (fun p => (200 - p.1).toNat) wordsM0 wordsM wordsM (fun _ => []) fun p =>
  [.split (decide (p.1 < 64))
    [.split (l.getD p.1.toNat false) [.fork [.nw, .nw, .ix 0, .ix 0, .dy, .cell (.bool true), .br true, .nw, .nw, .ix 0, .ix 0, .nw] []] [.fork [.nw, .nw, .ix 0, .ix 0, .dy, .cell (.bool false), .br false, .nw] []]]
    [.split (l.getD p.1.toNat false) [.fork [.nw, .nw, .ix 1, .ix 1, .dy, .cell (.bool true), .br true, .nw, .nw, .ix 1, .ix 1, .nw] []] [.fork [.nw, .nw, .ix 1, .ix 1, .dy, .cell (.bool false), .br false, .nw] []]]]]

theorem words_run (l : List Bool) (r : AV) : run [] Try.prog 72 [.vsl 0 0 128] [some ⟨false, 4, 1, true, l.map .bool⟩] (wordsH l) (yields (.v r)) =
    (let R := (2 : Nat); let O := wordsSt l; let N := wordsI l; let M := (0 : Int); let L := BitVec.ofInt (64 : Nat) (1 : Int); let I := (200 : Int); let H := AV.agg; let F := (1 : Nat); let C := AV.w64; let u := Value.int IntKind.u64 M; let G := [H (List.map AV.lit (Array.toList #[u, u]))]; let t := Blk.mk true (nat_lit 24) R true; let s := BitVec.ofInt (64 : Nat) (2 : Int); let n := AV.any; let m := inRange IntKind.i64; let k := (0 : Nat); let T := AV.ptr (k + F) k k true; let P := AV.ptr (k + F + F) k k true; let B := BitVec.ofNat (64 : Nat) k; let j := Blk.mk true (24 : TypeId) R true [H [AV.lit (u), AV.lit (u)]]; let h := Blk.mk false (4 : TypeId) F true (List.map AV.bool l);((St.mk [AV.vsl k k (128 : Nat), n, T, P, AV.int IntKind.i64 M, n, n, n, n, n, n, n, n, n, n, n, n, n, n, n, n, n, n, n, n, n, n, n, n, n] [some h, some (Blk.mk true (24 : Nat) R true G), some (t (List.map canon G))] = O (M, B, B) ∧ N (M, B, B)) ∧ ∀ (a : Int × BitVec (64 : Nat) × BitVec (64 : Nat)), let J := Decidable.decide (a.1 < (64 : Int)); let D := a.1 + (1 : Int); let A := Int.toNat (I - a.1); let z := List.getD l (Int.toNat a.1) false; let x := M ≤ a.1 ∧ a.1 < (↑(128 : Nat) : Int); let w := Decidable.decide (a.1 < (128 : Int)); let q := Blk.read Proofs.Try.prog h (4 : Nat) (k + Int.toNat a.1) k; let U := q = some (AV.bool true); let S := q = some (AV.bool false); let o := Prod.snd a; let Q := [C o.1, C o.2]; let i := Int.tdiv a.1 (64 : Int); let K := m (i); let E := i = (↑k : Int); let y := i = (↑F : Int); let g := w = false → H (List.map canon1 (List.take R (List.drop k Q))) = r; let f := St.mk [AV.vsl k k (128 : Nat), n, T, P, AV.int IntKind.i64 D, n, n, n, n, n, n, n, n, n, n, n, n, n, n, n, n, n, n, n, n, n, n, n, n, n]; N a → (J = true → (z = true → (w = true → K ∧ K ∧ E ∧ E ∧ x ∧ U ∧ true = true ∧ K ∧ K ∧ E ∧ E ∧ m D ∧ ∃ (b : Int × BitVec (64 : Nat) × BitVec (64 : Nat)), f [some h, some j, some (t (List.set [H [C (o.1 * s), C o.2]] k (H [C (o.1 * s + L), C o.2])))] = O b ∧ N b ∧ Int.toNat (I - b.1) < A) ∧ g) ∧ (z = false → (w = true → K ∧ K ∧ E ∧ E ∧ x ∧ S ∧ false = false ∧ m D ∧ ∃ (c : Int × BitVec (64 : Nat) × BitVec (64 : Nat)), f [some h, some j, some (t (List.set [H Q] k (H [C (o.1 * s), C o.2])))] = O c ∧ N c ∧ Int.toNat (I - c.1) < A) ∧ g)) ∧ (J = false → (z = true → (w = true → K ∧ K ∧ y ∧ y ∧ x ∧ U ∧ true = true ∧ K ∧ K ∧ y ∧ y ∧ m D ∧ ∃ (d : Int × BitVec (64 : Nat) × BitVec (64 : Nat)), f [some h, some j, some (t (List.set [H [C o.1, C (o.2 * s)]] k (H [C o.1, C (o.2 * s + L)])))] = O d ∧ N d ∧ Int.toNat (I - d.1) < A) ∧ g) ∧ (z = false → (w = true → K ∧ K ∧ y ∧ y ∧ x ∧ S ∧ false = false ∧ m D ∧ ∃ (e : Int × BitVec (64 : Nat) × BitVec (64 : Nat)), f [some h, some j, some (t (List.set [H Q] k (H [C o.1, C (o.2 * s)])))] = O e ∧ N e ∧ Int.toNat (I - e.1) < A) ∧ g)))) := by kernel_rfl

theorem read_bool {l : List Bool} {k : Int} {b w : Bool} (h0 : 0 ≤ k) (hl : k < (l.length : Int)) (hb : l.getD k.toNat false = b) : (Blk.mk w 4 1 true (l.map .bool)).read Try.prog 4 (0 + k.toNat) 0 = some (.bool b) := by
  refine read1 ?_ (by kernel_rfl)
  rw [← hb]
  simp [List.getD_eq_getElem?_getD, show k.toNat < l.length from by omega]

theorem div64_in {k : Int} (h0 : 0 ≤ k) (h1 : k < 128) : inRange .i64 (k.tdiv 64) := by
  rw [Int.tdiv_eq_ediv_of_nonneg h0]; exact inR (by omega) (by omega)

theorem div64_lo {k : Int} (h0 : 0 ≤ k) (h1 : k < 64) : k.tdiv 64 = ((0 : Nat) : Int) := by rw [Int.tdiv_eq_ediv_of_nonneg h0]; omega
theorem div64_hi {k : Int} (h0 : 64 ≤ k) (h1 : k < 128) : k.tdiv 64 = ((1 : Nat) : Int) := by rw [Int.tdiv_eq_ediv_of_nonneg (by omega)]; omega

theorem wd_succ (l : List Bool) (o n : Nat) : wd l o (n + 1) = if l.getD (o + n) false then wd l o n * 2#64 + 1#64 else wd l o n * 2#64 := rfl

def wordsF : List Arg → (Res → Prop) → Prop
  | [.row es], R => ∃ l : List Bool, es = l.map .bool ∧ l.length = 128 ∧ R (.v (.agg [.w64 (wd l 0 64), .w64 (wd l 64 64)]))
  | _, _ => False

theorem words_ok : SpecOK Try.prog 72 (genSpec [pBool] wordsF) := by
  refine genSpec_ok none_ok fun args R hF => ?_
  unfold wordsF at hF
  split at hF
  · rename_i es
    obtain ⟨l, rfl, hl, hR⟩ := hF
    refine ⟨_, hR, rfl, wordsH l, ?_⟩
    have hlen : (l.map AV.bool).length = 128 := by simpa using hl
    show run _ _ _ [.vsl 0 0 (l.map AV.bool).length] [some ⟨false, 4, 1, true, l.map .bool⟩] (wordsH l) _
    rw [hlen, words_run]; (conv => zeta)
    refine ⟨⟨rfl, by decide, by decide, rfl, rfl⟩, ?_⟩
    rintro ⟨k, x, y⟩ ⟨h0, h1, hx, hy⟩
    simp only at h0 h1 hx hy
    have out : decide (k < 128) = false → canon2 (AV.agg (List.take 2 (List.drop 0 [AV.w64 x, AV.w64 y]))) = AV.agg [.w64 (wd l 0 64), .w64 (wd l 64 64)] := by
      intro h
      obtain rfl : k = 128 := by simp at h; omega
      rw [hx, hy]; rfl
    refine ⟨fun h64 => ⟨fun hb => ⟨fun hlt => ?_, out⟩, fun hb => ⟨fun hlt => ?_, out⟩⟩, fun h64 => ⟨fun hb => ⟨fun hlt => ?_, out⟩, fun hb => ⟨fun hlt => ?_, out⟩⟩⟩
    all_goals
      simp only [decide_eq_true_eq, decide_eq_false_iff_not] at h64 hlt hb
      have e1 := div64_in h0 hlt
      have e2 : inRange .i64 (k + 1) := inR (by omega) (by omega)
      have rd := read_bool (w := false) h0 (by omega) hb
    · have e4 := div64_lo h0 h64
      refine ⟨e1, e1, e4, e4, ⟨h0, hlt⟩, rd, rfl, e1, e1, e4, e4, e2, (k + 1, x * 2#64 + 1#64, y), rfl, ⟨by simp only; omega, by simp only; omega, ?_, ?_⟩, by simp only; omega⟩
      · show x * 2#64 + 1#64 = _
        rw [show min (k + 1).toNat 64 = k.toNat + 1 from by omega, wd_succ, Nat.zero_add, hb, if_pos rfl, hx, show min k.toNat 64 = k.toNat from by omega]
      · show y = _
        rw [hy]; congr 1; omega
    · have e4 := div64_lo h0 h64
      refine ⟨e1, e1, e4, e4, ⟨h0, hlt⟩, rd, rfl, e2, (k + 1, x * 2#64, y), rfl, ⟨by simp only; omega, by simp only; omega, ?_, ?_⟩, by simp only; omega⟩
      · show x * 2#64 = _
        rw [show min (k + 1).toNat 64 = k.toNat + 1 from by omega, wd_succ, Nat.zero_add, hb, if_neg (by simp), hx, show min k.toNat 64 = k.toNat from by omega]
      · show y = _
        rw [hy]; congr 1; omega
    · have e4 := div64_hi (by omega) hlt
      refine ⟨e1, e1, e4, e4, ⟨h0, hlt⟩, rd, rfl, e1, e1, e4, e4, e2, (k + 1, x, y * 2#64 + 1#64), rfl, ⟨by simp only; omega, by simp only; omega, ?_, ?_⟩, by simp only; omega⟩
      · show x = _
        rw [hx]; congr 1; omega
      · show y * 2#64 + 1#64 = _
        rw [show (k + 1).toNat - 64 = (k.toNat - 64) + 1 from by omega, wd_succ, show 64 + (k.toNat - 64) = k.toNat from by omega, hb, if_pos rfl, hy]
    · have e4 := div64_hi (by omega) hlt
      refine ⟨e1, e1, e4, e4, ⟨h0, hlt⟩, rd, rfl, e2, (k + 1, x, y * 2#64), rfl, ⟨by simp only; omega, by simp only; omega, ?_, ?_⟩, by simp only; omega⟩
      · show x = _
        rw [hx]; congr 1; omega
      · show y * 2#64 = _
        rw [show (k + 1).toNat - 64 = (k.toNat - 64) + 1 from by omega, wd_succ, show 64 + (k.toNat - 64) = k.toNat from by omega, hb, if_neg (by simp), hy]
  · exact hF.elim

end Go.Proofs.Ytcabofadpheomaa.L1
end

section
/-
  Layer 1: contracts of the document's own functions Op and Mask.
-/
namespace Go.Proofs.Ytcabofadpheomaa.L1
open Go.Sx Go.Sx.M

/-- One bit of Op. -/
def opB (w : Int) (x y : Bool) : Bool := if w = 2 then x != y else if w = 1 then x || y else x && y

def opSt (F : List Bool → List AV) (w : Int) (a b c d : BitVec 64) (p : Nat × List Bool) : St :=
  ⟨[.int .i64 w, .any, .any, .any, .any, .any, .ptr 2 0 0 true, .slice 3 0 128 false, .slice 4 0 128 false, .vsl 5 0 p.1, .int .i64 p.1, .any, .any, .any, .any, .any, .any, .any, .any, .any, .any, .any, .any, .any, .any, .any, .any, .any, .any, .any, .any, .any, .any, .any, .any, .any, .any, .any, .any, .any, .any, .any, .any, .any, .any, .any, .any, .any, .any, .any, .any, .any, .any, .any, .any, .any, .any, .any, .any],
   [none, none, some ⟨true, 24, 2, true, [.agg [.lit (.int .u64 0), .lit (.int .u64 0)]]⟩, some ⟨true, 4, 1, true, bitsOf a b⟩, some ⟨true, 4, 1, true, bitsOf c d⟩, some ⟨true, 4, 1, true, F p.2⟩]⟩

def opM0 : Modes := ⟨[1, 0, 0, 0, 0, 0, 1, 1, 1, 1, 2, 0, 0, 0, 0, 0, 0, 0, 0, 0, 0, 0, 0, 0, 0, 0, 0, 0, 0, 0, 0, 0, 0, 0, 0, 0, 0, 0, 0, 0, 0, 0, 0, 0, 0, 0, 0, 0, 0, 0, 0, 0, 0, 0, 0, 0, 0, 0, 0], [0, 1, 2, 3, 4], [0, 0, 1, 1, 1], [], [(9, 4, 1)]⟩
def opM : Modes := ⟨[1, 0, 0, 0, 0, 0, 1, 1, 1, 1, 1, 0, 0, 0, 0, 0, 0, 0, 0, 0, 0, 0, 0, 0, 0, 0, 0, 0, 0, 0, 0, 0, 0, 0, 0, 0, 0, 0, 0, 0, 0, 0, 0, 0, 0, 0, 0, 0, 0, 0, 0, 0, 0, 0, 0, 0, 0, 0, 0], [0, 1, 2, 3, 4, 7], [0, 0, 1, 1, 1, 1], [], []⟩
def opM' : Modes := ⟨[1, 0, 0, 0, 0, 0, 1, 1, 1, 1, 1, 0, 0, 0, 0, 0, 0, 0, 0, 0, 0, 0, 0, 0, 0, 0, 0, 0, 0, 0, 0, 0, 0, 0, 0, 0, 0, 0, 0, 0, 0, 0, 0, 0, 0, 0, 0, 0, 0, 0, 0, 0, 0, 0, 0, 0, 0, 0, 0], [0, 1, 2, 3, 4, 5], [0, 0, 1, 1, 1, 1], [], []⟩

def opI (w : Int) (a b c d : BitVec 64) (p : Nat × List Bool) : Prop := p.1 ≤ 128 ∧ p.2 = (List.range p.1).map fun k => opB w (bitAt a b k) (bitAt c d k)

def opH (F : List Bool → List AV) (w : Int) (a b c d : BitVec 64) : List Hint := [.linv _ (0, []) (opSt F w a b c d) (opI w a b c d) (fun p => 200 - p.1) opM0 opM opM' (fun _ => []) fun p =>
  [.fork [.split (bitAt a b p.1)
     [.dy, .cell (.bool true), .br true, .dy, .cell (.bool (bitAt c d p.1)), .fork [.dy, .cell (.bool true), .br true, .br false, .nw] [.fork [.dy, .cell (.bool true), .dy, .cell (.bool (bitAt c d p.1)), .nw] [.nw]]]
     [.dy, .cell (.bool false), .br false, .fork [.dy, .cell (.bool false), .br false, .dy, .cell (.bool (bitAt c d p.1)), .br false, .nw] [.fork [.dy, .cell (.bool false), .dy, .cell (.bool (bitAt c d p.1)), .nw] [.nw]]]] []]]

noncomputable def opCs : List (FuncId × Sx.Spec) := [(71, genSpec [none] bitsF), (72, genSpec [pBool] wordsF)]

theorem op_run (F : List Bool → List AV) (w : Int) (a b c d : BitVec 64) (r : AV) : run opCs Try.prog 50 [.int .i64 w, .agg [.w64 a, .w64 b], .agg [.w64 c, .w64 d]] [] (opH F w a b c d) (yields (.v r)) =
    (let ab := Blk.mk true; let Z := (128 : Nat); let U := w == (1 : Int); let T := AV.int IntKind.i64; let S := AV.bool; let R := w == (2 : Int); let ae := R = false; let N := opI w a b c d; let M := opSt F w a b c d; let J := Value.int IntKind.u64 (0 : Int); let I := (200 : Nat); let z := (0 : Nat); let x := AV.any; let u := (1 : Nat); let ad := AV.slice (z + u + u + u) z; let ac := AV.ptr (z + u + u) z z true; let aa := AV.slice (z + u + u + u + u) z; let H := ab (4 : Nat) u true; let q := ab (24 : TypeId) (2 : Nat) true [AV.agg [AV.lit (J), AV.lit (J)]]; let o := ab (4 : TypeId) u true; let L := o (bitsOf c d); let K := o (bitsOf a b); let B := [none, none, some (ab (24 : Nat) (2 : Nat) true [AV.agg (List.map AV.lit (Array.toList #[J, J]))]), some K, some L];((St.mk (List.set [T w, x, x, x, x, x, ac, ad (List.length (bitsOf a b)) false, aa (List.length (bitsOf c d)) false, AV.lit (Value.slice none z z), T (0 : Int), x, x, x, x, x, x, x, x, x, x, x, x, x, x, x, x, x, x, x, x, x, x, x, x, x, x, x, x, x, x, x, x, x, x, x, x, x, x, x, x, x, x, x, x, x, x, x, x] (9 : Nat) (AV.vsl (List.length B) z z)) (B ++ [some (o [])]) = M (z, []) ∧ N (z, [])) ∧ ∀ (e : Nat × List Bool), let Q := (↑e.1 : Int); let W := Decidable.decide (Q < (128 : Int)); let P := List.take e.1 (F e.2); let O := bitAt c d e.1; let G := e.1 ≤ List.length (F e.2); let E := e.1 + u ≤ (9223372036854775807 : Nat); let C := (e.1 + u) * u ≤ (140737488355328 : Nat); let V := C ∧ E ∧ z + u ≤ List.length [S (O)] ∧ G; let A := inRange IntKind.i64 (Q + (1 : Int)); let y := Blk.read Proofs.Try.prog L (4 : Nat) (z + Int.toNat Q) z = some (S (O)); let t := Blk.read Proofs.Try.prog K (4 : Nat) (z + Int.toNat Q) z; let Y := t = some (S true); let X := t = some (S false); let s := (0 : Int) ≤ Q ∧ Q < (↑Z : Int); let n := St.mk [T w, x, x, x, x, x, ac, ad Z false, aa Z false, AV.vsl (z + u + u + u + u + u) z (e.1 + u), T (Q + (1 : Int)), x, x, x, x, x, x, x, x, x, x, x, x, x, x, x, x, x, x, x, x, x, x, x, x, x, x, x, x, x, x, x, x, x, x, x, x, x, x, x, x, x, x, x, x, x, x, x, x]; let D := n [none, none, some q, some K, some L, some (H (P ++ List.take u (List.drop z [S (O)])))]; N e → (W = true → (bitAt a b e.1 = true → s ∧ Y ∧ true = true ∧ s ∧ y ∧ (U = true → s ∧ Y ∧ true = true ∧ ae ∧ (C ∧ E ∧ z + u ≤ List.length [S true] ∧ G) ∧ A ∧ ∃ (f : Nat × List Bool), n [none, none, some q, some K, some L, some (H (P ++ List.take u (List.drop z [S true])))] = M f ∧ N f ∧ I - f.1 < I - e.1) ∧ (U = false → (R = true → s ∧ Y ∧ s ∧ y ∧ (C ∧ E ∧ z + u ≤ List.length [AV.bool !true == O] ∧ G) ∧ A ∧ ∃ (g : Nat × List Bool), n [none, none, some q, some K, some L, some (H (P ++ List.take u (List.drop z [AV.bool !true == O])))] = M g ∧ N g ∧ I - g.1 < I - e.1) ∧ (ae → V ∧ A ∧ ∃ (h : Nat × List Bool), D = M h ∧ N h ∧ I - h.1 < I - e.1))) ∧ (bitAt a b e.1 = false → s ∧ X ∧ false = false ∧ (U = true → s ∧ X ∧ false = false ∧ s ∧ y ∧ ae ∧ V ∧ A ∧ ∃ (i : Nat × List Bool), D = M i ∧ N i ∧ I - i.1 < I - e.1) ∧ (U = false → (R = true → s ∧ X ∧ s ∧ y ∧ (C ∧ E ∧ z + u ≤ List.length [AV.bool !false == O] ∧ G) ∧ A ∧ ∃ (j : Nat × List Bool), n [none, none, some q, some K, some L, some (H (P ++ List.take u (List.drop z [AV.bool !false == O])))] = M j ∧ N j ∧ I - j.1 < I - e.1) ∧ (ae → (C ∧ E ∧ z + u ≤ List.length [S false] ∧ G) ∧ A ∧ ∃ (k : Nat × List Bool), n [none, none, some q, some K, some L, some (H (P ++ List.take u (List.drop z [S false])))] = M k ∧ N k ∧ I - k.1 < I - e.1)))) ∧ (W = false → z + e.1 ≤ List.length (F e.2) ∧ ∃ (m : List Bool), List.take e.1 (List.drop z (F e.2)) = List.map AV.bool m ∧ List.length m = Z ∧ AV.agg (List.map canon1 (List.take (2 : Nat) (List.drop z [AV.w64 (wd m z (64 : Nat)), AV.w64 (wd m (64 : Nat) (64 : Nat))]))) = r))) := by kernel_rfl

theorem app_row {l : List Bool} {n : Nat} (h : l.length = n) (v : Bool) : List.take n (l.map AV.bool) ++ List.take 1 (List.drop 0 [AV.bool v]) = (l ++ [v]).map AV.bool := by
  rw [List.take_of_length_le (by simp [h]), List.map_append]; rfl

theorem rowAt (a b : BitVec 64) {n : Nat} (hn : n < 128) : (bitsOf a b)[n]? = some (.bool (bitAt a b n)) := by
  unfold bitsOf
  rw [List.getElem?_map, List.getElem?_range hn]
  rfl

theorem read_bits {a b : BitVec 64} {k : Int} {v w : Bool} (h0 : 0 ≤ k) (hk : k < 128) (hv : bitAt a b k.toNat = v) : (Blk.mk w 4 1 true (bitsOf a b)).read Try.prog 4 (0 + k.toNat) 0 = some (.bool v) := by
  rw [← hv]
  exact read1 (rowAt a b (by omega)) (by kernel_rfl)

def opW (w : Int) (x y : BitVec 64) : BitVec 64 := if w = 2 then x ^^^ y else if w = 1 then x ||| y else x &&& y

theorem opW_msb (w : Int) (x y : BitVec 64) (i : Nat) : (opW w x y).getMsbD i = opB w (x.getMsbD i) (y.getMsbD i) := by
  unfold opW opB
  split
  · rw [BitVec.getMsbD_xor]
  · split
    · rw [BitVec.getMsbD_or]
    · rw [BitVec.getMsbD_and]

theorem wd_map {f : Nat → Bool} {x : BitVec 64} {o : Nat} (ho : o + 64 ≤ 128) (h : ∀ i, i < 64 → f (o + i) = x.getMsbD i) : wd ((List.range 128).map f) o 64 = x := by
  unfold wd
  refine W_eq fun i hi => ?_
  rw [← h i hi, List.getD_eq_getElem?_getD, List.getElem?_map, List.getElem?_range (by omega)]
  rfl

theorem wd_bits (f : Nat → Bool) (x y : BitVec 64) (h : ∀ k, k < 128 → f k = bitAt x y k) : wd ((List.range 128).map f) 0 64 = x ∧ wd ((List.range 128).map f) 64 64 = y := by
  refine ⟨wd_map (by omega) fun i hi => ?_, wd_map (by omega) fun i hi => ?_⟩
  · rw [h _ (by omega), bitAt, if_pos (by omega)]; simp
  · rw [h _ (by omega), bitAt, if_neg (by omega)]; simp

def opF : List Arg → (Res → Prop) → Prop
  | [.v (.int .i64 w), .v (.agg [.w64 a, .w64 b]), .v (.agg [.w64 c, .w64 d])], R => R (.v (.agg [.w64 (opW w a c), .w64 (opW w b d)]))
  | _, _ => False

theorem bitAt_op (w : Int) (a b c d : BitVec 64) {k : Nat} : opB w (bitAt a b k) (bitAt c d k) = bitAt (opW w a c) (opW w b d) k := by
  unfold bitAt
  split <;> rw [opW_msb]

theorem opCs_ok : ∀ e ∈ opCs, SpecOK Try.prog e.1 e.2 := by
  intro e he
  simp only [opCs, List.mem_cons, List.not_mem_nil, or_false] at he
  rcases he with rfl | rfl
  · exact bits_ok
  · exact words_ok

theorem op_ok : SpecOK Try.prog 50 (genSpec [none, none, none] opF) := by
  refine genSpec_ok (run_ok (l := opCs) opCs_ok mixed noNG) fun l R hF => ?_
  unfold opF at hF
  split at hF
  · rename_i w a b c d
    refine ⟨_, hF, rfl, opH (List.map .bool) w a b c d, ?_⟩
    show run opCs Try.prog _ [.int .i64 w, .agg [.w64 a, .w64 b], .agg [.w64 c, .w64 d]] [] _ _
    rw [op_run]; (conv => zeta)
    refine ⟨⟨rfl, by decide, rfl⟩, ?_⟩
    rintro ⟨n, l⟩ ⟨h1, h2⟩
    simp only at h1 h2
    have hl : l.length = n := by rw [h2]; simp
    have nx : ∀ v, n < 128 → v = opB w (bitAt a b n) (bitAt c d n) → ∃ p' : Nat × List Bool, opSt (List.map .bool) w a b c d (n + 1, l ++ [v]) = opSt (List.map .bool) w a b c d p' ∧ opI w a b c d p' ∧ 200 - p'.1 < 200 - n := by
      intro v hn hv
      refine ⟨(n + 1, l ++ [v]), rfl, ⟨by simp only; omega, ?_⟩, by simp only; omega⟩
      simp only
      rw [List.range_succ, List.map_append, h2, hv]; rfl
    refine ⟨fun hlt => ?_, fun hge => ?_⟩
    · have hn : n < 128 := by simp only [decide_eq_true_eq] at hlt; omega
      have B : 0 ≤ (n : Int) ∧ (n : Int) < ((128 : Nat) : Int) := by omega
      have rA : ∀ v, bitAt a b n = v → _ := fun v hv => read_bits (a := a) (b := b) (k := n) (v := v) (w := true) B.1 (by omega) hv
      have rC := read_bits (a := c) (b := d) (k := n) (w := true) B.1 (by omega) rfl
      have ap : (n + 1) * 1 ≤ 140737488355328 ∧ n + 1 ≤ 9223372036854775807 ∧ 0 + 1 ≤ 1 ∧ n ≤ (l.map AV.bool).length := by rw [List.length_map, hl]; omega
      have e : inRange .i64 ((n : Int) + 1) := inR (by omega) (by omega)
      have w12 : (w == 1) = true → (w == 2) = false := fun h => by rw [beq_iff_eq] at h; subst h; rfl
      refine ⟨fun ha => ⟨B, rA _ ha, rfl, B, rC, fun hw => ⟨B, rA _ ha, rfl, w12 hw, ap, e, ?_⟩, fun hw => ⟨fun hw2 => ⟨B, rA _ ha, B, rC, ap, e, ?_⟩, fun hw2 => ⟨ap, e, ?_⟩⟩⟩,
        fun ha => ⟨B, rA _ ha, rfl, fun hw => ⟨B, rA _ ha, rfl, B, rC, w12 hw, ap, e, ?_⟩, fun hw => ⟨fun hw2 => ⟨B, rA _ ha, B, rC, ap, e, ?_⟩, fun hw2 => ⟨ap, e, ?_⟩⟩⟩⟩
      all_goals
        rw [app_row hl]
        refine nx _ hn ?_
        try replace hw2 := hw2
        simp only at ha
        simp only [beq_iff_eq, beq_eq_false_iff_ne, ne_eq] at hw
        try simp only [beq_iff_eq, beq_eq_false_iff_ne, ne_eq] at hw2
        unfold opB
        rw [ha]
        simp [*]
    · have hn : n = 128 := by simp only [decide_eq_false_iff_not] at hge; omega
      subst hn
      have e : List.take 128 (List.drop 0 (l.map AV.bool)) = l.map AV.bool := by rw [List.drop_zero, List.take_of_length_le (by simp [hl])]
      refine ⟨by rw [List.length_map, hl]; omega, l, e, hl, ?_⟩
      obtain ⟨e1, e2⟩ := wd_bits (fun k => opB w (bitAt a b k) (bitAt c d k)) (opW w a c) (opW w b d) fun k _ => bitAt_op w a b c d
      rw [h2, e1, e2]
      rfl
  · exact hF.elim

end Go.Proofs.Ytcabofadpheomaa.L1
end

section
/-
  Layer 1: contracts of the document's and the program's Mask, and of Cut.
-/
namespace Go.Proofs.Ytcabofadpheomaa.L1
open Go.Sx Go.Sx.M

/-- A word with its first n bits set. -/
def mkW (n : Int) : BitVec 64 := W (fun i => decide ((i : Int) < n)) 64

theorem mkW_msb (n : Int) {i : Nat} (hi : i < 64) : (mkW n).getMsbD i = decide ((i : Int) < n) := W_msb _ hi

def maskF : List Arg → (Res → Prop) → Prop
  | [.v (.int .i64 n)], R => R (.v (.agg [.w64 (mkW n), .w64 (mkW (n - 64))]))
  | _, _ => False

theorem amask_run (n : Int) (r : AV) : run [] Try.prog 70 [.int .i64 n] [] [.nw] (yields (.v r)) =
    (((0 : Int) ≤ if (64 : Int) < if (128 : Int) < if (0 : Int) > n then (0 : Int) else n then (128 : Int) else if (0 : Int) > n then (0 : Int) else n then (64 : Int) else if (128 : Int) < if (0 : Int) > n then (0 : Int) else n then (128 : Int) else if (0 : Int) > n then (0 : Int) else n) ∧ Go.Sx.inRange Go.IntKind.i64 ((if (128 : Int) < if (0 : Int) > n then (0 : Int) else n then (128 : Int) else if (0 : Int) > n then (0 : Int) else n) - if (64 : Int) < if (128 : Int) < if (0 : Int) > n then (0 : Int) else n then (128 : Int) else if (0 : Int) > n then (0 : Int) else n then (64 : Int) else if (128 : Int) < if (0 : Int) > n then (0 : Int) else n then (128 : Int) else if (0 : Int) > n then (0 : Int) else n) ∧ ((0 : Int) ≤ (if (128 : Int) < if (0 : Int) > n then (0 : Int) else n then (128 : Int) else if (0 : Int) > n then (0 : Int) else n) - if (64 : Int) < if (128 : Int) < if (0 : Int) > n then (0 : Int) else n then (128 : Int) else if (0 : Int) > n then (0 : Int) else n then (64 : Int) else if (128 : Int) < if (0 : Int) > n then (0 : Int) else n then (128 : Int) else if (0 : Int) > n then (0 : Int) else n) ∧ Go.Sx.AV.agg (List.map Go.Sx.canon1 (List.take (2 : Nat) (List.drop (0 : Nat) [Go.Sx.AV.w64 (~~~(BitVec.ofInt (64 : Nat) (18446744073709551615 : Int) >>> Int.toNat (if (64 : Int) < if (128 : Int) < if (0 : Int) > n then (0 : Int) else n then (128 : Int) else if (0 : Int) > n then (0 : Int) else n then (64 : Int) else if (128 : Int) < if (0 : Int) > n then (0 : Int) else n then (128 : Int) else if (0 : Int) > n then (0 : Int) else n))), Go.Sx.AV.w64 (~~~(BitVec.ofInt (64 : Nat) (18446744073709551615 : Int) >>> Int.toNat ((if (128 : Int) < if (0 : Int) > n then (0 : Int) else n then (128 : Int) else if (0 : Int) > n then (0 : Int) else n) - if (64 : Int) < if (128 : Int) < if (0 : Int) > n then (0 : Int) else n then (128 : Int) else if (0 : Int) > n then (0 : Int) else n then (64 : Int) else if (128 : Int) < if (0 : Int) > n then (0 : Int) else n then (128 : Int) else if (0 : Int) > n then (0 : Int) else n)))]))) = r) := by kernel_rfl

/-- From 0 to 128. -/
def clamp (n : Int) : Int := max 0 (min n 128)

theorem clamp_eq (n : Int) : (if 128 < (if 0 > n then 0 else n) then 128 else if 0 > n then 0 else n) = clamp n := by
  unfold clamp
  split <;> split <;> omega

theorem top_mk {n : Int} (h0 : 0 ≤ n) : ~~~(BitVec.ofInt 64 18446744073709551615 >>> n.toNat) = mkW n := by
  refine msb_eq fun i hi => ?_
  rw [mkW_msb n hi, BitVec.getMsbD_not, BitVec.getMsbD_ushiftRight, show BitVec.ofInt 64 18446744073709551615 = BitVec.allOnes 64 from by decide, BitVec.getMsbD_allOnes]
  by_cases h : (i : Int) < n
  · simp [h, hi, show i < n.toNat from by omega]
  · simp [h, hi, show ¬ i < n.toNat from by omega]
    omega

theorem mkW_congr {n m : Int} (h : ∀ i : Nat, i < 64 → ((i : Int) < n ↔ (i : Int) < m)) : mkW n = mkW m :=
  msb_eq fun i hi => by rw [mkW_msb _ hi, mkW_msb _ hi]; congr 1; exact propext (h i hi)

theorem amask_ok : SpecOK Try.prog 70 (genSpec [none] maskF) := by
  refine genSpec_ok none_ok fun l R hF => ?_
  unfold maskF at hF
  split at hF
  · rename_i n
    refine ⟨_, hF, rfl, [.nw], ?_⟩
    show run [] Try.prog _ [.int .i64 n] [] _ _
    rw [amask_run]
    simp only [clamp_eq]
    have hc : (if 64 < clamp n then 64 else clamp n) = min (clamp n) 64 := by split <;> omega
    rw [hc]
    have b : 0 ≤ clamp n ∧ clamp n ≤ 128 := by unfold clamp; omega
    refine ⟨by omega, inR (by omega) (by omega), by omega, ?_⟩
    show AV.agg [.w64 _, .w64 _] = _
    rw [top_mk (by omega), top_mk (by omega)]
    rw [show mkW (min (clamp n) 64) = mkW n from mkW_congr fun i hi => by unfold clamp; omega,
      show mkW (clamp n - min (clamp n) 64) = mkW (n - 64) from mkW_congr fun i hi => by unfold clamp; omega]
  · exact hF.elim

noncomputable def cutCs : List (FuncId × Sx.Spec) := [(70, genSpec [none] maskF)]

theorem cutCs_ok : ∀ e ∈ cutCs, SpecOK Try.prog e.1 e.2 := by
  intro e he
  simp only [cutCs, List.mem_cons, List.not_mem_nil, or_false] at he
  rcases he with rfl
  exact amask_ok

def cutF : List Arg → (Res → Prop) → Prop
  | [.v (.agg [.w64 a, .w64 b]), .v (.int .i64 n)], R => R (.v (.agg [.w64 (a &&& mkW n), .w64 (b &&& mkW (n - 64))]))
  | _, _ => False

theorem cut_run (a b : BitVec 64) (n : Int) (r : AV) : run cutCs Try.prog 69 [.agg [.w64 a, .w64 b], .int .i64 n] [] [] (yields (.v r)) =
    (Go.Sx.AV.agg (List.map Go.Sx.canon1 (List.take (2 : Nat) (List.drop (0 : Nat) [Go.Sx.AV.w64 (a &&& Go.Proofs.Ytcabofadpheomaa.L1.mkW n), Go.Sx.AV.w64 (b &&& Go.Proofs.Ytcabofadpheomaa.L1.mkW (n - (64 : Int)))]))) = r) := by kernel_rfl

theorem cut_ok : SpecOK Try.prog 69 (genSpec [none, none] cutF) := by
  refine genSpec_ok (run_ok (l := cutCs) cutCs_ok mixed noNG) fun l R hF => ?_
  unfold cutF at hF
  split at hF
  · rename_i a b n
    refine ⟨_, hF, rfl, [], ?_⟩
    show run cutCs Try.prog _ [.agg [.w64 a, .w64 b], .int .i64 n] [] _ _
    rw [cut_run]
    first | rfl | exact ⟨rfl, rfl⟩
  · exact hF.elim

end Go.Proofs.Ytcabofadpheomaa.L1
end

section
/-
  Layer 1: contracts of the program's Bit and With.
-/
namespace Go.Proofs.Ytcabofadpheomaa.L1
open Go.Sx Go.Sx.M

end Go.Proofs.Ytcabofadpheomaa.L1
end

section
/-
  Layer 1: contracts of LeadingZeros64, and of the document's and the program's Common and Compare.
-/
namespace Go.Proofs.Ytcabofadpheomaa.L1
open Go.Sx Go.Sx.M

end Go.Proofs.Ytcabofadpheomaa.L1
end

section
/-
  Layer 1: contracts of the document's and the program's Common and Compare.
-/
namespace Go.Proofs.Ytcabofadpheomaa.L1
open Go.Sx Go.Sx.M

end Go.Proofs.Ytcabofadpheomaa.L1
end

