/-
  Layer 1: contracts of OnesCount64 and of the program's Ones.
-/
import Derived.Test.YtnjbgbdcbejciaaL1a
import Derived.Test.YtnjbgbdcbejciaaMa
namespace Go.Proofs.Ytnjbgbdcbejciaa.L1
open Go.Sx Go.Sx.M

def pop1 (x : BitVec 64) : BitVec 64 := (x >>> Int.toNat 1 &&& BitVec.ofInt 64 6148914691236517205) + (x &&& BitVec.ofInt 64 6148914691236517205)
def pop2 (x : BitVec 64) : BitVec 64 := (x >>> Int.toNat 2 &&& BitVec.ofInt 64 3689348814741910323) + (x &&& BitVec.ofInt 64 3689348814741910323)
def pop3 (x : BitVec 64) : BitVec 64 := (x >>> Int.toNat 4 + x) &&& BitVec.ofInt 64 1085102592571150095
def pop4 (x : BitVec 64) : BitVec 64 := x + x >>> Int.toNat 8
def pop5 (x : BitVec 64) : BitVec 64 := x + x >>> Int.toNat 16
def pop6 (x : BitVec 64) : BitVec 64 := x + x >>> Int.toNat 32
def pop (x : BitVec 64) : BitVec 64 := pop6 (pop5 (pop4 (pop3 (pop2 (pop1 x)))))

theorem pop_toNat (x : BitVec 64) : (pop x).toNat % 128 = cnt 64 x.toNat := by
  have hx := x.isLt
  obtain ⟨r1, r2, r3, r4⟩ := popcount x.toNat hx _ _ _ _ _ _ rfl rfl rfl rfl rfl rfl
  have t1 : (pop1 x).toNat = (x.toNat / 2 &&& 6148914691236517205) + (x.toNat &&& 6148914691236517205) := by
    unfold pop1
    rw [BitVec.toNat_add, BitVec.toNat_and, BitVec.toNat_and, BitVec.toNat_ushiftRight, show (BitVec.ofInt 64 6148914691236517205).toNat = 6148914691236517205 from by decide, Nat.shiftRight_eq_div_pow]
    exact Nat.mod_eq_of_lt r1
  generalize hp1 : (x.toNat / 2 &&& 6148914691236517205) + (x.toNat &&& 6148914691236517205) = p1 at *
  have t2 : (pop2 (pop1 x)).toNat = (p1 / 4 &&& 3689348814741910323) + (p1 &&& 3689348814741910323) := by
    unfold pop2
    rw [BitVec.toNat_add, BitVec.toNat_and, BitVec.toNat_and, BitVec.toNat_ushiftRight, t1, show (BitVec.ofInt 64 3689348814741910323).toNat = 3689348814741910323 from by decide, Nat.shiftRight_eq_div_pow]
    exact Nat.mod_eq_of_lt (by
      have : p1 / 2 ^ Int.toNat 2 = p1 / 4 := rfl
      rw [this]; omega)
  generalize hp2 : (p1 / 4 &&& 3689348814741910323) + (p1 &&& 3689348814741910323) = p2 at *
  have t3 : (pop3 (pop2 (pop1 x))).toNat = (p2 / 16 + p2) &&& 1085102592571150095 := by
    unfold pop3
    rw [BitVec.toNat_and, BitVec.toNat_add, BitVec.toNat_ushiftRight, t2, show (BitVec.ofInt 64 1085102592571150095).toNat = 1085102592571150095 from by decide, Nat.shiftRight_eq_div_pow]
    congr 1
    exact Nat.mod_eq_of_lt r2
  generalize hp3 : (p2 / 16 + p2) &&& 1085102592571150095 = p3 at *
  have t4 : (pop4 (pop3 (pop2 (pop1 x)))).toNat = p3 + p3 / 256 := by
    unfold pop4
    rw [BitVec.toNat_add, BitVec.toNat_ushiftRight, t3, Nat.shiftRight_eq_div_pow, show 2 ^ Int.toNat 8 = 256 from rfl]
    omega
  generalize hp4 : p3 + p3 / 256 = p4 at *
  have t5 : (pop5 (pop4 (pop3 (pop2 (pop1 x))))).toNat = p4 + p4 / 65536 := by
    unfold pop5
    rw [BitVec.toNat_add, BitVec.toNat_ushiftRight, t4, Nat.shiftRight_eq_div_pow, show 2 ^ Int.toNat 16 = 65536 from rfl]
    omega
  generalize hp5 : p4 + p4 / 65536 = p5 at *
  have t6 : (pop x).toNat = p5 + p5 / 4294967296 := by
    show (pop6 (pop5 (pop4 (pop3 (pop2 (pop1 x)))))).toNat = _
    unfold pop6
    rw [BitVec.toNat_add, BitVec.toNat_ushiftRight, t5, Nat.shiftRight_eq_div_pow, show 2 ^ Int.toNat 32 = 4294967296 from rfl]
    omega
  rw [t6]; exact r4

theorem cnt_le : ∀ n x, cnt n x ≤ n
  | 0, _ => Nat.le_refl _
  | n + 1, x => by have := cnt_le n x; simp only [cnt]; split <;> omega

theorem ofWrap (x : BitVec 64) : BitVec.ofInt 64 (IntKind.i64.wrap (x.toNat : Int)) = x := by
  apply BitVec.eq_of_toNat_eq
  rw [BitVec.toNat_ofInt]
  have := x.isLt
  simp [IntKind.wrap, IntKind.bits, IntKind.signed]
  split <;> omega

def ones64F : List Arg → (Res → Prop) → Prop
  | [.v (.w64 x)], R => R (.v (.int .i64 (cnt 64 x.toNat)))
  | _, _ => False

theorem ones64_run (x : BitVec 64) (r : AV) : run [] Try.prog 103 [.w64 x] [] [] (yields (.v r)) =
    (AV.int .i64 (IntKind.i64.wrap ((BitVec.ofInt 64 (IntKind.i64.wrap ((pop x).toNat : Int)) &&& BitVec.ofInt 64 127).toNat : Int)) = r) := by kernel_rfl

theorem ones64_ok : SpecOK Try.prog 103 (genSpec [none] ones64F) := by
  refine genSpec_ok none_ok fun l R hF => ?_
  unfold ones64F at hF
  split at hF
  · rename_i x
    refine ⟨_, hF, rfl, [], ?_⟩
    show run [] Try.prog _ [.w64 x] [] [] _
    rw [ones64_run, ofWrap]
    congr 1
    have h1 : (pop x &&& BitVec.ofInt 64 127).toNat = cnt 64 x.toNat := by
      rw [BitVec.toNat_and, show (BitVec.ofInt 64 127).toNat = 2 ^ 7 - 1 from by decide, Nat.and_two_pow_sub_one_eq_mod]
      exact pop_toNat x
    rw [h1]
    have := cnt_le 64 x.toNat
    exact wrap_inRange (inR (by omega) (by omega))
  · exact hF.elim

def onesF : List Arg → (Res → Prop) → Prop
  | [.v (.agg [.w64 a, .w64 b])], R => R (.v (.int .i64 (cnt 64 a.toNat + cnt 64 b.toNat)))
  | _, _ => False

noncomputable def onesCs : List (FuncId × Sx.Spec) := [(103, genSpec [none] ones64F)]

theorem ones_run (a b : BitVec 64) (r : AV) : run onesCs Try.prog 73 [.agg [.w64 a, .w64 b]] [] [.nw] (yields (.v r)) =
    (inRange .i64 ((cnt 64 a.toNat : Int) + (cnt 64 b.toNat : Int)) ∧ AV.int .i64 (cnt 64 a.toNat + cnt 64 b.toNat) = r) := by kernel_rfl

theorem ones_ok : SpecOK Try.prog 73 (genSpec [none] onesF) := by
  refine genSpec_ok (run_ok (l := onesCs) (by simp only [onesCs, List.mem_cons, List.not_mem_nil, or_false]; rintro _ rfl; exact ones64_ok) mixed noNG) fun l R hF => ?_
  unfold onesF at hF
  split at hF
  · rename_i a b
    refine ⟨_, hF, rfl, [.nw], ?_⟩
    show run onesCs Try.prog _ [.agg [.w64 a, .w64 b]] [] [.nw] _
    rw [ones_run]
    have := cnt_le 64 a.toNat
    have := cnt_le 64 b.toNat
    exact ⟨inR (by omega) (by omega), rfl⟩
  · exact hF.elim

end Go.Proofs.Ytnjbgbdcbejciaa.L1
