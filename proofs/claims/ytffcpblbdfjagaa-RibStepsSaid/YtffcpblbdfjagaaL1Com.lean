/-
  Layer 1: contracts of LeadingZeros64, and of the document's and the program's Common and Compare.
-/
import Derived.Test.YtffcpblbdfjagaaL1Op
namespace Go.Proofs.Ytffcpblbdfjagaa.L1
open Go.Sx Go.Sx.M

/-- How many bits a number has. -/
def lenN (n : Nat) : Nat := if n = 0 then 0 else n.log2 + 1

def lenTab : List Nat := [0, 1, 2, 2, 3, 3, 3, 3, 4, 4, 4, 4, 4, 4, 4, 4, 5, 5, 5, 5, 5, 5, 5, 5, 5, 5, 5, 5, 5, 5, 5, 5, 6, 6, 6, 6, 6, 6, 6, 6, 6, 6, 6, 6, 6, 6, 6, 6, 6, 6, 6, 6, 6, 6, 6, 6, 6, 6, 6, 6, 6, 6, 6, 6, 7, 7, 7, 7, 7, 7, 7, 7, 7, 7, 7, 7, 7, 7, 7, 7, 7, 7, 7, 7, 7, 7, 7, 7, 7, 7, 7, 7, 7, 7, 7, 7, 7, 7, 7, 7, 7, 7, 7, 7, 7, 7, 7, 7, 7, 7, 7, 7, 7, 7, 7, 7, 7, 7, 7, 7, 7, 7, 7, 7, 7, 7, 7, 7, 8, 8, 8, 8, 8, 8, 8, 8, 8, 8, 8, 8, 8, 8, 8, 8, 8, 8, 8, 8, 8, 8, 8, 8, 8, 8, 8, 8, 8, 8, 8, 8, 8, 8, 8, 8, 8, 8, 8, 8, 8, 8, 8, 8, 8, 8, 8, 8, 8, 8, 8, 8, 8, 8, 8, 8, 8, 8, 8, 8, 8, 8, 8, 8, 8, 8, 8, 8, 8, 8, 8, 8, 8, 8, 8, 8, 8, 8, 8, 8, 8, 8, 8, 8, 8, 8, 8, 8, 8, 8, 8, 8, 8, 8, 8, 8, 8, 8, 8, 8, 8, 8, 8, 8, 8, 8, 8, 8, 8, 8, 8, 8, 8, 8, 8, 8, 8, 8, 8, 8, 8, 8, 8, 8, 8, 8, 8, 8]

def lenH (x : BitVec 64) : List Hint := [.fork [.fork [.fork [.dy, .cell (.int .u8 (lenN (x >>> 32 >>> 16 >>> 8).toNat)), .nw] [.dy, .cell (.int .u8 (lenN (x >>> 32 >>> 16).toNat)), .nw]] [.fork [.dy, .cell (.int .u8 (lenN (x >>> 32 >>> 8).toNat)), .nw] [.dy, .cell (.int .u8 (lenN (x >>> 32).toNat)), .nw]]] [.fork [.fork [.dy, .cell (.int .u8 (lenN (x >>> 16 >>> 8).toNat)), .nw] [.dy, .cell (.int .u8 (lenN (x >>> 16).toNat)), .nw]] [.fork [.dy, .cell (.int .u8 (lenN (x >>> 8).toNat)), .nw] [.dy, .cell (.int .u8 (lenN x.toNat)), .nw]]]]

theorem lenTab_get : ∀ k : Fin 256, (bstr lenTab)[k.val]?.map (fun u : UInt8 => ((u.1.toNat : Nat) : Int)) = some ((lenN k.val : Nat) : Int) := by decide +kernel

theorem lenN_shift {x s : Nat} (h : x / 2 ^ s ≠ 0) : lenN (x / 2 ^ s) + s = lenN x := by
  have hx : x ≠ 0 := by rintro rfl; simp at h
  unfold lenN
  rw [if_neg h, if_neg hx]
  have h1 := (Nat.log2_eq_iff h).1 rfl
  generalize (x / 2 ^ s).log2 = k at h1
  have h2 : x.log2 = k + s := (Nat.log2_eq_iff hx).2 ⟨by
      rw [Nat.pow_add]; exact (Nat.le_div_iff_mul_le (Nat.two_pow_pos s)).1 h1.1, by
      rw [show k + s + 1 = (k + 1) + s from by omega, Nat.pow_add]; exact (Nat.div_lt_iff_lt_mul (Nat.two_pow_pos s)).1 h1.2⟩
  omega

theorem lenN_le {x : Nat} (h : x < 2 ^ 64) : lenN x ≤ 64 := by
  unfold lenN
  split
  · omega
  · rename_i h0
    have := (Nat.log2_lt h0).2 h
    omega

theorem len_leaf {x y : BitVec 64} {s : Nat} {c : Int} (hc : c = s) (hs : s ≤ 64) (hy : y.toNat = x.toNat / 2 ^ s) (hb : y.toNat < 256) (h0 : s = 0 ∨ y.toNat ≠ 0) :
    (0 ≤ IntKind.u8.wrap (y.toNat : Int) ∧ IntKind.u8.wrap (y.toNat : Int) < ((bstr lenTab).size : Int)) ∧ (bstr lenTab)[(IntKind.u8.wrap (y.toNat : Int)).toNat]?.map (fun u : UInt8 => ((u.1.toNat : Nat) : Int)) = some ((lenN y.toNat : Nat) : Int) ∧
      inRange .i64 (c + IntKind.i64.wrap ((lenN y.toNat : Nat) : Int)) ∧ AV.int .i64 (c + IntKind.i64.wrap ((lenN y.toNat : Nat) : Int)) = AV.int .i64 (lenN x.toNat : Nat) := by
  have e : IntKind.u8.wrap (y.toNat : Int) = (y.toNat : Int) := by simp [IntKind.wrap, IntKind.bits, IntKind.signed]; omega
  have hx := lenN_le x.isLt
  have hl := lenN_le y.isLt
  have e2 : IntKind.i64.wrap ((lenN y.toNat : Nat) : Int) = ((lenN y.toNat : Nat) : Int) := wrap_inRange (inR (by omega) (by omega))
  have e3 : lenN y.toNat + s = lenN x.toNat := by
    rw [hy]
    rcases h0 with rfl | h0
    · simp
    · exact lenN_shift (hy ▸ h0)
  have hz : (bstr lenTab).size = 256 := by decide +kernel
  rw [e, e2, hz]
  refine ⟨by omega, lenTab_get ⟨y.toNat, hb⟩, inR (by omega) (by omega), ?_⟩
  congr 1
  omega

theorem shr_nat (x : BitVec 64) (k : Nat) : (x >>> k).toNat = x.toNat / 2 ^ k := by rw [BitVec.toNat_ushiftRight, Nat.shiftRight_eq_div_pow]

def lenF : List Arg → (Res → Prop) → Prop
  | [.v (.w64 x)], R => R (.v (.int .i64 (lenN x.toNat : Nat)))
  | _, _ => False

theorem le_dec {c : Int} {x : BitVec 64} (h : decide (BitVec.ofInt 64 c ≤ x) = true) (h0 : 0 ≤ c) (h1 : c < 18446744073709551616) : c ≤ (x.toNat : Int) := by
  simp only [decide_eq_true_eq] at h
  have := BitVec.le_def.1 h
  have e := toNat_ofInt h0 h1
  omega

theorem nle_dec {c : Int} {x : BitVec 64} (h : decide (BitVec.ofInt 64 c ≤ x) = false) (h0 : 0 ≤ c) (h1 : c < 18446744073709551616) : (x.toNat : Int) < c := by
  simp only [decide_eq_false_iff_not] at h
  have e := toNat_ofInt h0 h1
  rcases Nat.lt_or_ge x.toNat (BitVec.ofInt 64 c).toNat with h2 | h2
  · omega
  · exact absurd (BitVec.le_def.2 h2) h

theorem n32 : Int.toNat 32 = 32 := rfl
theorem n16 : Int.toNat 16 = 16 := rfl
theorem n8 : Int.toNat 8 = 8 := rfl

end Go.Proofs.Ytffcpblbdfjagaa.L1
