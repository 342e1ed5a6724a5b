/-
  Layer 1: contracts of LeadingZeros64, and of the document's and the program's Common and Compare.
-/
import Derived.Test.YtbhbokhdkapkpaaL1Op
namespace Go.Proofs.Ytbhbokhdkapkpaa.L1
open Go.Sx Go.Sx.M

/-- How many bits a number has. -/
def lenN (n : Nat) : Nat := if n = 0 then 0 else n.log2 + 1

def lenTab : List Nat := [0, 1, 2, 2, 3, 3, 3, 3, 4, 4, 4, 4, 4, 4, 4, 4, 5, 5, 5, 5, 5, 5, 5, 5, 5, 5, 5, 5, 5, 5, 5, 5, 6, 6, 6, 6, 6, 6, 6, 6, 6, 6, 6, 6, 6, 6, 6, 6, 6, 6, 6, 6, 6, 6, 6, 6, 6, 6, 6, 6, 6, 6, 6, 6, 7, 7, 7, 7, 7, 7, 7, 7, 7, 7, 7, 7, 7, 7, 7, 7, 7, 7, 7, 7, 7, 7, 7, 7, 7, 7, 7, 7, 7, 7, 7, 7, 7, 7, 7, 7, 7, 7, 7, 7, 7, 7, 7, 7, 7, 7, 7, 7, 7, 7, 7, 7, 7, 7, 7, 7, 7, 7, 7, 7, 7, 7, 7, 7, 8, 8, 8, 8, 8, 8, 8, 8, 8, 8, 8, 8, 8, 8, 8, 8, 8, 8, 8, 8, 8, 8, 8, 8, 8, 8, 8, 8, 8, 8, 8, 8, 8, 8, 8, 8, 8, 8, 8, 8, 8, 8, 8, 8, 8, 8, 8, 8, 8, 8, 8, 8, 8, 8, 8, 8, 8, 8, 8, 8, 8, 8, 8, 8, 8, 8, 8, 8, 8, 8, 8, 8, 8, 8, 8, 8, 8, 8, 8, 8, 8, 8, 8, 8, 8, 8, 8, 8, 8, 8, 8, 8, 8, 8, 8, 8, 8, 8, 8, 8, 8, 8, 8, 8, 8, 8, 8, 8, 8, 8, 8, 8, 8, 8, 8, 8, 8, 8, 8, 8, 8, 8, 8, 8, 8, 8, 8, 8]

def lenH (x : BitVec 64) : List Hint := [.fork [.fork [.fork [.dy, .cell (.int .u8 (lenN (x >>> 32 >>> 16 >>> 8).toNat)), .nw] [.dy, .cell (.int .u8 (lenN (x >>> 32 >>> 16).toNat)), .nw]] [.fork [.dy, .cell (.int .u8 (lenN (x >>> 32 >>> 8).toNat)), .nw] [.dy, .cell (.int .u8 (lenN (x >>> 32).toNat)), .nw]]] [.fork [.fork [.dy, .cell (.int .u8 (lenN (x >>> 16 >>> 8).toNat)), .nw] [.dy, .cell (.int .u8 (lenN (x >>> 16).toNat)), .nw]] [.fork [.dy, .cell (.int .u8 (lenN (x >>> 8).toNat)), .nw] [.dy, .cell (.int .u8 (lenN x.toNat)), .nw]]]]

theorem len_run (x : BitVec 64) (r : AV) : run [] Try.prog 76 [.w64 x] [] (lenH x) (yields (.v r)) =
    ((Decidable.decide (BitVec.ofInt (64 : Nat) (4294967296 : Int) ≤ x) = Bool.true → (Decidable.decide (BitVec.ofInt (64 : Nat) (65536 : Int) ≤ x >>> Int.toNat (32 : Int)) = Bool.true → (Decidable.decide (BitVec.ofInt (64 : Nat) (256 : Int) ≤ x >>> Int.toNat (32 : Int) >>> Int.toNat (16 : Int)) = Bool.true → ((0 : Int) ≤ Go.IntKind.wrap Go.IntKind.u8 (↑(BitVec.toNat (x >>> Int.toNat (32 : Int) >>> Int.toNat (16 : Int) >>> Int.toNat (8 : Int))) : Int) ∧ Go.IntKind.wrap Go.IntKind.u8 (↑(BitVec.toNat (x >>> Int.toNat (32 : Int) >>> Int.toNat (16 : Int) >>> Int.toNat (8 : Int))) : Int) < (↑(ByteArray.size (Go.Sx.bstr lenTab)) : Int)) ∧ Option.map (fun (u : UInt8) => (↑(UInt8.toNat u) : Int)) (Go.Sx.bstr lenTab)[Int.toNat (Go.IntKind.wrap Go.IntKind.u8 (↑(BitVec.toNat (x >>> Int.toNat (32 : Int) >>> Int.toNat (16 : Int) >>> Int.toNat (8 : Int))) : Int))]? = Option.some (↑(Go.Proofs.Ytbhbokhdkapkpaa.L1.lenN (BitVec.toNat (x >>> (32 : Nat) >>> (16 : Nat) >>> (8 : Nat)))) : Int) ∧ Go.Sx.inRange Go.IntKind.i64 ((56 : Int) + Go.IntKind.wrap Go.IntKind.i64 (↑(Go.Proofs.Ytbhbokhdkapkpaa.L1.lenN (BitVec.toNat (x >>> (32 : Nat) >>> (16 : Nat) >>> (8 : Nat)))) : Int)) ∧ Go.Sx.AV.int Go.IntKind.i64 ((56 : Int) + Go.IntKind.wrap Go.IntKind.i64 (↑(Go.Proofs.Ytbhbokhdkapkpaa.L1.lenN (BitVec.toNat (x >>> (32 : Nat) >>> (16 : Nat) >>> (8 : Nat)))) : Int)) = r) ∧ (Decidable.decide (BitVec.ofInt (64 : Nat) (256 : Int) ≤ x >>> Int.toNat (32 : Int) >>> Int.toNat (16 : Int)) = Bool.false → ((0 : Int) ≤ Go.IntKind.wrap Go.IntKind.u8 (↑(BitVec.toNat (x >>> Int.toNat (32 : Int) >>> Int.toNat (16 : Int))) : Int) ∧ Go.IntKind.wrap Go.IntKind.u8 (↑(BitVec.toNat (x >>> Int.toNat (32 : Int) >>> Int.toNat (16 : Int))) : Int) < (↑(ByteArray.size (Go.Sx.bstr lenTab)) : Int)) ∧ Option.map (fun (u : UInt8) => (↑(UInt8.toNat u) : Int)) (Go.Sx.bstr lenTab)[Int.toNat (Go.IntKind.wrap Go.IntKind.u8 (↑(BitVec.toNat (x >>> Int.toNat (32 : Int) >>> Int.toNat (16 : Int))) : Int))]? = Option.some (↑(Go.Proofs.Ytbhbokhdkapkpaa.L1.lenN (BitVec.toNat (x >>> (32 : Nat) >>> (16 : Nat)))) : Int) ∧ Go.Sx.inRange Go.IntKind.i64 ((48 : Int) + Go.IntKind.wrap Go.IntKind.i64 (↑(Go.Proofs.Ytbhbokhdkapkpaa.L1.lenN (BitVec.toNat (x >>> (32 : Nat) >>> (16 : Nat)))) : Int)) ∧ Go.Sx.AV.int Go.IntKind.i64 ((48 : Int) + Go.IntKind.wrap Go.IntKind.i64 (↑(Go.Proofs.Ytbhbokhdkapkpaa.L1.lenN (BitVec.toNat (x >>> (32 : Nat) >>> (16 : Nat)))) : Int)) = r)) ∧ (Decidable.decide (BitVec.ofInt (64 : Nat) (65536 : Int) ≤ x >>> Int.toNat (32 : Int)) = Bool.false → (Decidable.decide (BitVec.ofInt (64 : Nat) (256 : Int) ≤ x >>> Int.toNat (32 : Int)) = Bool.true → ((0 : Int) ≤ Go.IntKind.wrap Go.IntKind.u8 (↑(BitVec.toNat (x >>> Int.toNat (32 : Int) >>> Int.toNat (8 : Int))) : Int) ∧ Go.IntKind.wrap Go.IntKind.u8 (↑(BitVec.toNat (x >>> Int.toNat (32 : Int) >>> Int.toNat (8 : Int))) : Int) < (↑(ByteArray.size (Go.Sx.bstr lenTab)) : Int)) ∧ Option.map (fun (u : UInt8) => (↑(UInt8.toNat u) : Int)) (Go.Sx.bstr lenTab)[Int.toNat (Go.IntKind.wrap Go.IntKind.u8 (↑(BitVec.toNat (x >>> Int.toNat (32 : Int) >>> Int.toNat (8 : Int))) : Int))]? = Option.some (↑(Go.Proofs.Ytbhbokhdkapkpaa.L1.lenN (BitVec.toNat (x >>> (32 : Nat) >>> (8 : Nat)))) : Int) ∧ Go.Sx.inRange Go.IntKind.i64 ((40 : Int) + Go.IntKind.wrap Go.IntKind.i64 (↑(Go.Proofs.Ytbhbokhdkapkpaa.L1.lenN (BitVec.toNat (x >>> (32 : Nat) >>> (8 : Nat)))) : Int)) ∧ Go.Sx.AV.int Go.IntKind.i64 ((40 : Int) + Go.IntKind.wrap Go.IntKind.i64 (↑(Go.Proofs.Ytbhbokhdkapkpaa.L1.lenN (BitVec.toNat (x >>> (32 : Nat) >>> (8 : Nat)))) : Int)) = r) ∧ (Decidable.decide (BitVec.ofInt (64 : Nat) (256 : Int) ≤ x >>> Int.toNat (32 : Int)) = Bool.false → ((0 : Int) ≤ Go.IntKind.wrap Go.IntKind.u8 (↑(BitVec.toNat (x >>> Int.toNat (32 : Int))) : Int) ∧ Go.IntKind.wrap Go.IntKind.u8 (↑(BitVec.toNat (x >>> Int.toNat (32 : Int))) : Int) < (↑(ByteArray.size (Go.Sx.bstr lenTab)) : Int)) ∧ Option.map (fun (u : UInt8) => (↑(UInt8.toNat u) : Int)) (Go.Sx.bstr lenTab)[Int.toNat (Go.IntKind.wrap Go.IntKind.u8 (↑(BitVec.toNat (x >>> Int.toNat (32 : Int))) : Int))]? = Option.some (↑(Go.Proofs.Ytbhbokhdkapkpaa.L1.lenN (BitVec.toNat (x >>> (32 : Nat)))) : Int) ∧ Go.Sx.inRange Go.IntKind.i64 ((32 : Int) + Go.IntKind.wrap Go.IntKind.i64 (↑(Go.Proofs.Ytbhbokhdkapkpaa.L1.lenN (BitVec.toNat (x >>> (32 : Nat)))) : Int)) ∧ Go.Sx.AV.int Go.IntKind.i64 ((32 : Int) + Go.IntKind.wrap Go.IntKind.i64 (↑(Go.Proofs.Ytbhbokhdkapkpaa.L1.lenN (BitVec.toNat (x >>> (32 : Nat)))) : Int)) = r))) ∧ (Decidable.decide (BitVec.ofInt (64 : Nat) (4294967296 : Int) ≤ x) = Bool.false → (Decidable.decide (BitVec.ofInt (64 : Nat) (65536 : Int) ≤ x) = Bool.true → (Decidable.decide (BitVec.ofInt (64 : Nat) (256 : Int) ≤ x >>> Int.toNat (16 : Int)) = Bool.true → ((0 : Int) ≤ Go.IntKind.wrap Go.IntKind.u8 (↑(BitVec.toNat (x >>> Int.toNat (16 : Int) >>> Int.toNat (8 : Int))) : Int) ∧ Go.IntKind.wrap Go.IntKind.u8 (↑(BitVec.toNat (x >>> Int.toNat (16 : Int) >>> Int.toNat (8 : Int))) : Int) < (↑(ByteArray.size (Go.Sx.bstr lenTab)) : Int)) ∧ Option.map (fun (u : UInt8) => (↑(UInt8.toNat u) : Int)) (Go.Sx.bstr lenTab)[Int.toNat (Go.IntKind.wrap Go.IntKind.u8 (↑(BitVec.toNat (x >>> Int.toNat (16 : Int) >>> Int.toNat (8 : Int))) : Int))]? = Option.some (↑(Go.Proofs.Ytbhbokhdkapkpaa.L1.lenN (BitVec.toNat (x >>> (16 : Nat) >>> (8 : Nat)))) : Int) ∧ Go.Sx.inRange Go.IntKind.i64 ((24 : Int) + Go.IntKind.wrap Go.IntKind.i64 (↑(Go.Proofs.Ytbhbokhdkapkpaa.L1.lenN (BitVec.toNat (x >>> (16 : Nat) >>> (8 : Nat)))) : Int)) ∧ Go.Sx.AV.int Go.IntKind.i64 ((24 : Int) + Go.IntKind.wrap Go.IntKind.i64 (↑(Go.Proofs.Ytbhbokhdkapkpaa.L1.lenN (BitVec.toNat (x >>> (16 : Nat) >>> (8 : Nat)))) : Int)) = r) ∧ (Decidable.decide (BitVec.ofInt (64 : Nat) (256 : Int) ≤ x >>> Int.toNat (16 : Int)) = Bool.false → ((0 : Int) ≤ Go.IntKind.wrap Go.IntKind.u8 (↑(BitVec.toNat (x >>> Int.toNat (16 : Int))) : Int) ∧ Go.IntKind.wrap Go.IntKind.u8 (↑(BitVec.toNat (x >>> Int.toNat (16 : Int))) : Int) < (↑(ByteArray.size (Go.Sx.bstr lenTab)) : Int)) ∧ Option.map (fun (u : UInt8) => (↑(UInt8.toNat u) : Int)) (Go.Sx.bstr lenTab)[Int.toNat (Go.IntKind.wrap Go.IntKind.u8 (↑(BitVec.toNat (x >>> Int.toNat (16 : Int))) : Int))]? = Option.some (↑(Go.Proofs.Ytbhbokhdkapkpaa.L1.lenN (BitVec.toNat (x >>> (16 : Nat)))) : Int) ∧ Go.Sx.inRange Go.IntKind.i64 ((16 : Int) + Go.IntKind.wrap Go.IntKind.i64 (↑(Go.Proofs.Ytbhbokhdkapkpaa.L1.lenN (BitVec.toNat (x >>> (16 : Nat)))) : Int)) ∧ Go.Sx.AV.int Go.IntKind.i64 ((16 : Int) + Go.IntKind.wrap Go.IntKind.i64 (↑(Go.Proofs.Ytbhbokhdkapkpaa.L1.lenN (BitVec.toNat (x >>> (16 : Nat)))) : Int)) = r)) ∧ (Decidable.decide (BitVec.ofInt (64 : Nat) (65536 : Int) ≤ x) = Bool.false → (Decidable.decide (BitVec.ofInt (64 : Nat) (256 : Int) ≤ x) = Bool.true → ((0 : Int) ≤ Go.IntKind.wrap Go.IntKind.u8 (↑(BitVec.toNat (x >>> Int.toNat (8 : Int))) : Int) ∧ Go.IntKind.wrap Go.IntKind.u8 (↑(BitVec.toNat (x >>> Int.toNat (8 : Int))) : Int) < (↑(ByteArray.size (Go.Sx.bstr lenTab)) : Int)) ∧ Option.map (fun (u : UInt8) => (↑(UInt8.toNat u) : Int)) (Go.Sx.bstr lenTab)[Int.toNat (Go.IntKind.wrap Go.IntKind.u8 (↑(BitVec.toNat (x >>> Int.toNat (8 : Int))) : Int))]? = Option.some (↑(Go.Proofs.Ytbhbokhdkapkpaa.L1.lenN (BitVec.toNat (x >>> (8 : Nat)))) : Int) ∧ Go.Sx.inRange Go.IntKind.i64 ((8 : Int) + Go.IntKind.wrap Go.IntKind.i64 (↑(Go.Proofs.Ytbhbokhdkapkpaa.L1.lenN (BitVec.toNat (x >>> (8 : Nat)))) : Int)) ∧ Go.Sx.AV.int Go.IntKind.i64 ((8 : Int) + Go.IntKind.wrap Go.IntKind.i64 (↑(Go.Proofs.Ytbhbokhdkapkpaa.L1.lenN (BitVec.toNat (x >>> (8 : Nat)))) : Int)) = r) ∧ (Decidable.decide (BitVec.ofInt (64 : Nat) (256 : Int) ≤ x) = Bool.false → ((0 : Int) ≤ Go.IntKind.wrap Go.IntKind.u8 (↑(BitVec.toNat x) : Int) ∧ Go.IntKind.wrap Go.IntKind.u8 (↑(BitVec.toNat x) : Int) < (↑(ByteArray.size (Go.Sx.bstr lenTab)) : Int)) ∧ Option.map (fun (u : UInt8) => (↑(UInt8.toNat u) : Int)) (Go.Sx.bstr lenTab)[Int.toNat (Go.IntKind.wrap Go.IntKind.u8 (↑(BitVec.toNat x) : Int))]? = Option.some (↑(Go.Proofs.Ytbhbokhdkapkpaa.L1.lenN (BitVec.toNat x)) : Int) ∧ Go.Sx.inRange Go.IntKind.i64 ((0 : Int) + Go.IntKind.wrap Go.IntKind.i64 (↑(Go.Proofs.Ytbhbokhdkapkpaa.L1.lenN (BitVec.toNat x)) : Int)) ∧ Go.Sx.AV.int Go.IntKind.i64 ((0 : Int) + Go.IntKind.wrap Go.IntKind.i64 (↑(Go.Proofs.Ytbhbokhdkapkpaa.L1.lenN (BitVec.toNat x)) : Int)) = r)))) := by kernel_rfl

theorem lenTab_get : ∀ k : Fin 256, (bstr lenTab)[k.val]?.map (fun u : UInt8 => ((u.1.toNat : Nat) : Int)) = some ((lenN k.val : Nat) : Int) := by decide +kernel

theorem lenN_shift {x s : Nat} (h : x / 2 ^ s ≠ 0) : lenN (x / 2 ^ s) + s = lenN x := by
  have hx : x ≠ 0 := by rintro rfl; simp at h
  unfold lenN
  rw [if_neg h, if_neg hx]
  have h1 := (Nat.log2_eq_iff h).1 rfl
  generalize (x / 2 ^ s).log2 = k at h1
  have h2 : x.log2 = k + s := (Nat.log2_eq_iff hx).2 ⟨by
      rw [Nat.pow_add]; exact (Nat.le_div_iff_mul_le (Nat.two_pow_pos s)).1 h1.1, by
      rw [show k + s + 1 = (k + 1) + s from by omega, Nat.pow_add]; exact (Nat.div_lt_iff_lt_mul (Nat.two_pow_pos s)).1 h1.2⟩
  omega

theorem lenN_le {x : Nat} (h : x < 2 ^ 64) : lenN x ≤ 64 := by
  unfold lenN
  split
  · omega
  · rename_i h0
    have := (Nat.log2_lt h0).2 h
    omega

theorem len_leaf {x y : BitVec 64} {s : Nat} {c : Int} (hc : c = s) (hs : s ≤ 64) (hy : y.toNat = x.toNat / 2 ^ s) (hb : y.toNat < 256) (h0 : s = 0 ∨ y.toNat ≠ 0) :
    (0 ≤ IntKind.u8.wrap (y.toNat : Int) ∧ IntKind.u8.wrap (y.toNat : Int) < ((bstr lenTab).size : Int)) ∧ (bstr lenTab)[(IntKind.u8.wrap (y.toNat : Int)).toNat]?.map (fun u : UInt8 => ((u.1.toNat : Nat) : Int)) = some ((lenN y.toNat : Nat) : Int) ∧
      inRange .i64 (c + IntKind.i64.wrap ((lenN y.toNat : Nat) : Int)) ∧ AV.int .i64 (c + IntKind.i64.wrap ((lenN y.toNat : Nat) : Int)) = AV.int .i64 (lenN x.toNat : Nat) := by
  have e : IntKind.u8.wrap (y.toNat : Int) = (y.toNat : Int) := by simp [IntKind.wrap, IntKind.bits, IntKind.signed]; omega
  have hx := lenN_le x.isLt
  have hl := lenN_le y.isLt
  have e2 : IntKind.i64.wrap ((lenN y.toNat : Nat) : Int) = ((lenN y.toNat : Nat) : Int) := wrap_inRange (inR (by omega) (by omega))
  have e3 : lenN y.toNat + s = lenN x.toNat := by
    rw [hy]
    rcases h0 with rfl | h0
    · simp
    · exact lenN_shift (hy ▸ h0)
  have hz : (bstr lenTab).size = 256 := by decide +kernel
  rw [e, e2, hz]
  refine ⟨by omega, lenTab_get ⟨y.toNat, hb⟩, inR (by omega) (by omega), ?_⟩
  congr 1
  omega

theorem shr_nat (x : BitVec 64) (k : Nat) : (x >>> k).toNat = x.toNat / 2 ^ k := by rw [BitVec.toNat_ushiftRight, Nat.shiftRight_eq_div_pow]

def lenF : List Arg → (Res → Prop) → Prop
  | [.v (.w64 x)], R => R (.v (.int .i64 (lenN x.toNat : Nat)))
  | _, _ => False

theorem le_dec {c : Int} {x : BitVec 64} (h : decide (BitVec.ofInt 64 c ≤ x) = true) (h0 : 0 ≤ c) (h1 : c < 18446744073709551616) : c ≤ (x.toNat : Int) := by
  simp only [decide_eq_true_eq] at h
  have := BitVec.le_def.1 h
  have e := toNat_ofInt h0 h1
  omega

theorem nle_dec {c : Int} {x : BitVec 64} (h : decide (BitVec.ofInt 64 c ≤ x) = false) (h0 : 0 ≤ c) (h1 : c < 18446744073709551616) : (x.toNat : Int) < c := by
  simp only [decide_eq_false_iff_not] at h
  have e := toNat_ofInt h0 h1
  rcases Nat.lt_or_ge x.toNat (BitVec.ofInt 64 c).toNat with h2 | h2
  · omega
  · exact absurd (BitVec.le_def.2 h2) h

theorem n32 : Int.toNat 32 = 32 := rfl
theorem n16 : Int.toNat 16 = 16 := rfl
theorem n8 : Int.toNat 8 = 8 := rfl

theorem len_ok : SpecOK Try.prog 76 (genSpec [none] lenF) := by
  refine genSpec_ok none_ok fun l R hF => ?_
  unfold lenF at hF
  split at hF
  · rename_i x
    refine ⟨_, hF, rfl, lenH x, ?_⟩
    show run [] Try.prog _ [.w64 x] [] _ _
    rw [len_run]
    have hx := x.isLt
    refine ⟨fun a => ⟨fun b => ⟨fun c => ?_, fun c => ?_⟩, fun b => ⟨fun c => ?_, fun c => ?_⟩⟩, fun a => ⟨fun b => ⟨fun c => ?_, fun c => ?_⟩, fun b => ⟨fun c => ?_, fun c => ?_⟩⟩⟩
    all_goals
      first | have a := le_dec a (by omega) (by omega) | have a := nle_dec a (by omega) (by omega)
      first | have b := le_dec b (by omega) (by omega) | have b := nle_dec b (by omega) (by omega)
      first | have c := le_dec c (by omega) (by omega) | have c := nle_dec c (by omega) (by omega)
      try simp only [n32, n16, n8, shr_nat, Nat.reducePow] at a
      try simp only [n32, shr_nat, Nat.reducePow] at b
      try simp only [n32, n16, shr_nat, Nat.reducePow] at c
    · exact len_leaf (s := 56) (by decide) (by omega) (by simp only [shr_nat, n32, n16, n8, Nat.reducePow]; omega) (by simp only [shr_nat, n32, n16, n8, Nat.reducePow]; omega) (.inr (by simp only [shr_nat, n32, n16, n8, Nat.reducePow]; omega))
    · exact len_leaf (s := 48) (by decide) (by omega) (by simp only [shr_nat, n32, n16, Nat.reducePow]; omega) (by simp only [shr_nat, n32, n16, Nat.reducePow]; omega) (.inr (by simp only [shr_nat, n32, n16, Nat.reducePow]; omega))
    · exact len_leaf (s := 40) (by decide) (by omega) (by simp only [shr_nat, n32, n8, Nat.reducePow]; omega) (by simp only [shr_nat, n32, n8, Nat.reducePow]; omega) (.inr (by simp only [shr_nat, n32, n8, Nat.reducePow]; omega))
    · exact len_leaf (s := 32) (by decide) (by omega) (by simp only [shr_nat, n32, Nat.reducePow]) (by simp only [shr_nat, n32, Nat.reducePow]; omega) (.inr (by simp only [shr_nat, n32, Nat.reducePow]; omega))
    · exact len_leaf (s := 24) (by decide) (by omega) (by simp only [shr_nat, n16, n8, Nat.reducePow]; omega) (by simp only [shr_nat, n16, n8, Nat.reducePow]; omega) (.inr (by simp only [shr_nat, n16, n8, Nat.reducePow]; omega))
    · exact len_leaf (s := 16) (by decide) (by omega) (by simp only [shr_nat, n16, Nat.reducePow]) (by simp only [shr_nat, n16, Nat.reducePow]; omega) (.inr (by simp only [shr_nat, n16, Nat.reducePow]; omega))
    · exact len_leaf (s := 8) (by decide) (by omega) (by simp only [shr_nat, n8, Nat.reducePow]) (by simp only [shr_nat, n8, Nat.reducePow]; omega) (.inr (by simp only [shr_nat, n8, Nat.reducePow]; omega))
    · exact len_leaf (s := 0) (by decide) (by omega) (by simp) (by omega) (.inl rfl)
  · exact hF.elim

end Go.Proofs.Ytbhbokhdkapkpaa.L1
