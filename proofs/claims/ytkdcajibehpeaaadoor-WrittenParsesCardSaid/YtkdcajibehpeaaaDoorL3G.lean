/-
  Layer 3: contracts of the library's FormatInt at base 16, of the program's group.
-/
import Derived.Test.YtkdcajibehpeaaaDoorL3V
namespace Go.Proofs.YtkdcajibehpeaaaDoor.L1
open Go.Sx Go.Sx.M Go.RowKit

def groupF : List Arg → (Res → Prop) → Prop
  | [.v (.int .i64 v)], R => 0 ≤ v ∧ v < 65536 ∧ R (.v (.val (.string (tx (hex4 v.toNat)))))
  | _, _ => False

def hxI (n : Nat) : AV := .int .u8 ((hx n).toNat : Nat)

def fiH (v : Nat) : List Hint :=
  [.arr, .br false, .loop 5,
   .fork ([.dy, .cell (hxI (v % 16)),
     .fork ([.dy, .cell (hxI (v / 16 % 16)),
       .fork ([.dy, .cell (hxI (v / 256 % 16)), .br false, .dy, .cell (hxI (v / 4096)), .br false, .txt, .nw])
         [.dy, .cell (hxI (v / 256)), .br false, .txt, .nw]])
       [.dy, .cell (hxI (v / 16)), .br false, .txt, .nw]])
     [.dy, .cell (hxI v), .br false, .txt, .nw]]

noncomputable def groupCs : List (FuncId × Sx.Spec) := [(84, genSpec [none] tzF), (54, genSpec [none, none] repF)]

def digs36 : List UInt8 := [48, 49, 50, 51, 52, 53, 54, 55, 56, 57, 97, 98, 99, 100, 101, 102, 103, 104, 105, 106, 107, 108, 109, 110, 111, 112, 113, 114, 115, 116, 117, 118, 119, 120, 121, 122]

theorem group_run (v : Nat) (r : AV) : run groupCs Tryd.prog 41 [.int .i64 (v : Int)] [] (fiH v) (yields (.v r)) =
    (Decidable.decide ((↑v : Int) < (0 : Int)) = Bool.false ∧ (Decidable.decide (16#64 ≤ BitVec.ofInt (64 : Nat) (↑v : Int)) = Bool.true → ((0 : Int) ≤ (↑(BitVec.toNat (BitVec.ofInt (64 : Nat) (↑v : Int) &&& 15#64)) : Int) ∧ (↑(BitVec.toNat (BitVec.ofInt (64 : Nat) (↑v : Int) &&& 15#64)) : Int) < (↑(ByteArray.size (Go.Sx.M.tx digs36)) : Int)) ∧ Option.map (fun (u : UInt8) => (↑(UInt8.toNat u) : Int)) (Go.Sx.M.tx digs36)[Int.toNat (↑(BitVec.toNat (BitVec.ofInt (64 : Nat) (↑v : Int) &&& 15#64)) : Int)]? = Option.some (↑(UInt8.toNat (Go.Sx.M.hx (v % (16 : Nat)))) : Int) ∧ (0 : Int) ≤ (4 : Int) ∧ (Decidable.decide (16#64 ≤ BitVec.ofInt (64 : Nat) (↑v : Int) >>> (4 : Nat)) = Bool.true → ((0 : Int) ≤ (↑(BitVec.toNat (BitVec.ofInt (64 : Nat) (↑v : Int) >>> (4 : Nat) &&& 15#64)) : Int) ∧ (↑(BitVec.toNat (BitVec.ofInt (64 : Nat) (↑v : Int) >>> (4 : Nat) &&& 15#64)) : Int) < (↑(ByteArray.size (Go.Sx.M.tx digs36)) : Int)) ∧ Option.map (fun (u : UInt8) => (↑(UInt8.toNat u) : Int)) (Go.Sx.M.tx digs36)[Int.toNat (↑(BitVec.toNat (BitVec.ofInt (64 : Nat) (↑v : Int) >>> (4 : Nat) &&& 15#64)) : Int)]? = Option.some (↑(UInt8.toNat (Go.Sx.M.hx (v / (16 : Nat) % (16 : Nat)))) : Int) ∧ (0 : Int) ≤ (4 : Int) ∧ (Decidable.decide (16#64 ≤ BitVec.ofInt (64 : Nat) (↑v : Int) >>> (4 : Nat) >>> (4 : Nat)) = Bool.true → ((0 : Int) ≤ (↑(BitVec.toNat (BitVec.ofInt (64 : Nat) (↑v : Int) >>> (4 : Nat) >>> (4 : Nat) &&& 15#64)) : Int) ∧ (↑(BitVec.toNat (BitVec.ofInt (64 : Nat) (↑v : Int) >>> (4 : Nat) >>> (4 : Nat) &&& 15#64)) : Int) < (↑(ByteArray.size (Go.Sx.M.tx digs36)) : Int)) ∧ Option.map (fun (u : UInt8) => (↑(UInt8.toNat u) : Int)) (Go.Sx.M.tx digs36)[Int.toNat (↑(BitVec.toNat (BitVec.ofInt (64 : Nat) (↑v : Int) >>> (4 : Nat) >>> (4 : Nat) &&& 15#64)) : Int)]? = Option.some (↑(UInt8.toNat (Go.Sx.M.hx (v / (256 : Nat) % (16 : Nat)))) : Int) ∧ (0 : Int) ≤ (4 : Int) ∧ Decidable.decide (16#64 ≤ BitVec.ofInt (64 : Nat) (↑v : Int) >>> (4 : Nat) >>> (4 : Nat) >>> (4 : Nat)) = Bool.false ∧ ((0 : Int) ≤ (↑(BitVec.toNat (BitVec.ofInt (64 : Nat) (↑v : Int) >>> (4 : Nat) >>> (4 : Nat) >>> (4 : Nat))) : Int) ∧ (↑(BitVec.toNat (BitVec.ofInt (64 : Nat) (↑v : Int) >>> (4 : Nat) >>> (4 : Nat) >>> (4 : Nat))) : Int) < (↑(ByteArray.size (Go.Sx.M.tx digs36)) : Int)) ∧ Option.map (fun (u : UInt8) => (↑(UInt8.toNat u) : Int)) (Go.Sx.M.tx digs36)[Int.toNat (↑(BitVec.toNat (BitVec.ofInt (64 : Nat) (↑v : Int) >>> (4 : Nat) >>> (4 : Nat) >>> (4 : Nat))) : Int)]? = Option.some (↑(UInt8.toNat (Go.Sx.M.hx (v / (4096 : Nat)))) : Int) ∧ Decidable.decide ((↑v : Int) < (0 : Int)) = Bool.false ∧ Go.Sx.inRange Go.IntKind.i64 ((4 : Int) - (↑(ByteArray.size (Go.Sx.M.tx [UInt8.ofNat (Int.toNat (↑(UInt8.toNat (Go.Sx.M.hx (v / (4096 : Nat)))) : Int)), UInt8.ofNat (Int.toNat (↑(UInt8.toNat (Go.Sx.M.hx (v / (256 : Nat) % (16 : Nat)))) : Int)), UInt8.ofNat (Int.toNat (↑(UInt8.toNat (Go.Sx.M.hx (v / (16 : Nat) % (16 : Nat)))) : Int)), UInt8.ofNat (Int.toNat (↑(UInt8.toNat (Go.Sx.M.hx (v % (16 : Nat)))) : Int))])) : Int)) ∧ ByteArray.size (Go.Sx.bstr [(48 : Nat)]) ≤ (1 : Nat) ∧ (0 : Int) ≤ (4 : Int) - (↑(ByteArray.size (Go.Sx.M.tx [UInt8.ofNat (Int.toNat (↑(UInt8.toNat (Go.Sx.M.hx (v / (4096 : Nat)))) : Int)), UInt8.ofNat (Int.toNat (↑(UInt8.toNat (Go.Sx.M.hx (v / (256 : Nat) % (16 : Nat)))) : Int)), UInt8.ofNat (Int.toNat (↑(UInt8.toNat (Go.Sx.M.hx (v / (16 : Nat) % (16 : Nat)))) : Int)), UInt8.ofNat (Int.toNat (↑(UInt8.toNat (Go.Sx.M.hx (v % (16 : Nat)))) : Int))])) : Int) ∧ (4 : Int) - (↑(ByteArray.size (Go.Sx.M.tx [UInt8.ofNat (Int.toNat (↑(UInt8.toNat (Go.Sx.M.hx (v / (4096 : Nat)))) : Int)), UInt8.ofNat (Int.toNat (↑(UInt8.toNat (Go.Sx.M.hx (v / (256 : Nat) % (16 : Nat)))) : Int)), UInt8.ofNat (Int.toNat (↑(UInt8.toNat (Go.Sx.M.hx (v / (16 : Nat) % (16 : Nat)))) : Int)), UInt8.ofNat (Int.toNat (↑(UInt8.toNat (Go.Sx.M.hx (v % (16 : Nat)))) : Int))])) : Int) ≤ (100 : Int) ∧ ByteArray.size (Go.Sx.bstr []) + ByteArray.size (Go.Sx.M.tx [UInt8.ofNat (Int.toNat (↑(UInt8.toNat (Go.Sx.M.hx (v / (4096 : Nat)))) : Int)), UInt8.ofNat (Int.toNat (↑(UInt8.toNat (Go.Sx.M.hx (v / (256 : Nat) % (16 : Nat)))) : Int)), UInt8.ofNat (Int.toNat (↑(UInt8.toNat (Go.Sx.M.hx (v / (16 : Nat) % (16 : Nat)))) : Int)), UInt8.ofNat (Int.toNat (↑(UInt8.toNat (Go.Sx.M.hx (v % (16 : Nat)))) : Int))]) ≤ (9223372036854775807 : Nat) ∧ Go.Sx.AV.val (Go.Value.string (Go.Sx.bstr [] ++ Go.Sx.M.tx [UInt8.ofNat (Int.toNat (↑(UInt8.toNat (Go.Sx.M.hx (v / (4096 : Nat)))) : Int)), UInt8.ofNat (Int.toNat (↑(UInt8.toNat (Go.Sx.M.hx (v / (256 : Nat) % (16 : Nat)))) : Int)), UInt8.ofNat (Int.toNat (↑(UInt8.toNat (Go.Sx.M.hx (v / (16 : Nat) % (16 : Nat)))) : Int)), UInt8.ofNat (Int.toNat (↑(UInt8.toNat (Go.Sx.M.hx (v % (16 : Nat)))) : Int))])) = r) ∧ (Decidable.decide (16#64 ≤ BitVec.ofInt (64 : Nat) (↑v : Int) >>> (4 : Nat) >>> (4 : Nat)) = Bool.false → ((0 : Int) ≤ (↑(BitVec.toNat (BitVec.ofInt (64 : Nat) (↑v : Int) >>> (4 : Nat) >>> (4 : Nat))) : Int) ∧ (↑(BitVec.toNat (BitVec.ofInt (64 : Nat) (↑v : Int) >>> (4 : Nat) >>> (4 : Nat))) : Int) < (↑(ByteArray.size (Go.Sx.M.tx digs36)) : Int)) ∧ Option.map (fun (u : UInt8) => (↑(UInt8.toNat u) : Int)) (Go.Sx.M.tx digs36)[Int.toNat (↑(BitVec.toNat (BitVec.ofInt (64 : Nat) (↑v : Int) >>> (4 : Nat) >>> (4 : Nat))) : Int)]? = Option.some (↑(UInt8.toNat (Go.Sx.M.hx (v / (256 : Nat)))) : Int) ∧ Decidable.decide ((↑v : Int) < (0 : Int)) = Bool.false ∧ Go.Sx.inRange Go.IntKind.i64 ((4 : Int) - (↑(ByteArray.size (Go.Sx.M.tx [UInt8.ofNat (Int.toNat (↑(UInt8.toNat (Go.Sx.M.hx (v / (256 : Nat)))) : Int)), UInt8.ofNat (Int.toNat (↑(UInt8.toNat (Go.Sx.M.hx (v / (16 : Nat) % (16 : Nat)))) : Int)), UInt8.ofNat (Int.toNat (↑(UInt8.toNat (Go.Sx.M.hx (v % (16 : Nat)))) : Int))])) : Int)) ∧ ByteArray.size (Go.Sx.bstr [(48 : Nat)]) ≤ (1 : Nat) ∧ (0 : Int) ≤ (4 : Int) - (↑(ByteArray.size (Go.Sx.M.tx [UInt8.ofNat (Int.toNat (↑(UInt8.toNat (Go.Sx.M.hx (v / (256 : Nat)))) : Int)), UInt8.ofNat (Int.toNat (↑(UInt8.toNat (Go.Sx.M.hx (v / (16 : Nat) % (16 : Nat)))) : Int)), UInt8.ofNat (Int.toNat (↑(UInt8.toNat (Go.Sx.M.hx (v % (16 : Nat)))) : Int))])) : Int) ∧ (4 : Int) - (↑(ByteArray.size (Go.Sx.M.tx [UInt8.ofNat (Int.toNat (↑(UInt8.toNat (Go.Sx.M.hx (v / (256 : Nat)))) : Int)), UInt8.ofNat (Int.toNat (↑(UInt8.toNat (Go.Sx.M.hx (v / (16 : Nat) % (16 : Nat)))) : Int)), UInt8.ofNat (Int.toNat (↑(UInt8.toNat (Go.Sx.M.hx (v % (16 : Nat)))) : Int))])) : Int) ≤ (100 : Int) ∧ ByteArray.size (Go.Sx.bstr [(48 : Nat)]) + ByteArray.size (Go.Sx.M.tx [UInt8.ofNat (Int.toNat (↑(UInt8.toNat (Go.Sx.M.hx (v / (256 : Nat)))) : Int)), UInt8.ofNat (Int.toNat (↑(UInt8.toNat (Go.Sx.M.hx (v / (16 : Nat) % (16 : Nat)))) : Int)), UInt8.ofNat (Int.toNat (↑(UInt8.toNat (Go.Sx.M.hx (v % (16 : Nat)))) : Int))]) ≤ (9223372036854775807 : Nat) ∧ Go.Sx.AV.val (Go.Value.string (Go.Sx.bstr [(48 : Nat)] ++ Go.Sx.M.tx [UInt8.ofNat (Int.toNat (↑(UInt8.toNat (Go.Sx.M.hx (v / (256 : Nat)))) : Int)), UInt8.ofNat (Int.toNat (↑(UInt8.toNat (Go.Sx.M.hx (v / (16 : Nat) % (16 : Nat)))) : Int)), UInt8.ofNat (Int.toNat (↑(UInt8.toNat (Go.Sx.M.hx (v % (16 : Nat)))) : Int))])) = r)) ∧ (Decidable.decide (16#64 ≤ BitVec.ofInt (64 : Nat) (↑v : Int) >>> (4 : Nat)) = Bool.false → ((0 : Int) ≤ (↑(BitVec.toNat (BitVec.ofInt (64 : Nat) (↑v : Int) >>> (4 : Nat))) : Int) ∧ (↑(BitVec.toNat (BitVec.ofInt (64 : Nat) (↑v : Int) >>> (4 : Nat))) : Int) < (↑(ByteArray.size (Go.Sx.M.tx digs36)) : Int)) ∧ Option.map (fun (u : UInt8) => (↑(UInt8.toNat u) : Int)) (Go.Sx.M.tx digs36)[Int.toNat (↑(BitVec.toNat (BitVec.ofInt (64 : Nat) (↑v : Int) >>> (4 : Nat))) : Int)]? = Option.some (↑(UInt8.toNat (Go.Sx.M.hx (v / (16 : Nat)))) : Int) ∧ Decidable.decide ((↑v : Int) < (0 : Int)) = Bool.false ∧ Go.Sx.inRange Go.IntKind.i64 ((4 : Int) - (↑(ByteArray.size (Go.Sx.M.tx [UInt8.ofNat (Int.toNat (↑(UInt8.toNat (Go.Sx.M.hx (v / (16 : Nat)))) : Int)), UInt8.ofNat (Int.toNat (↑(UInt8.toNat (Go.Sx.M.hx (v % (16 : Nat)))) : Int))])) : Int)) ∧ ByteArray.size (Go.Sx.bstr [(48 : Nat)]) ≤ (1 : Nat) ∧ (0 : Int) ≤ (4 : Int) - (↑(ByteArray.size (Go.Sx.M.tx [UInt8.ofNat (Int.toNat (↑(UInt8.toNat (Go.Sx.M.hx (v / (16 : Nat)))) : Int)), UInt8.ofNat (Int.toNat (↑(UInt8.toNat (Go.Sx.M.hx (v % (16 : Nat)))) : Int))])) : Int) ∧ (4 : Int) - (↑(ByteArray.size (Go.Sx.M.tx [UInt8.ofNat (Int.toNat (↑(UInt8.toNat (Go.Sx.M.hx (v / (16 : Nat)))) : Int)), UInt8.ofNat (Int.toNat (↑(UInt8.toNat (Go.Sx.M.hx (v % (16 : Nat)))) : Int))])) : Int) ≤ (100 : Int) ∧ ByteArray.size (Go.Sx.bstr [(48 : Nat), (48 : Nat)]) + ByteArray.size (Go.Sx.M.tx [UInt8.ofNat (Int.toNat (↑(UInt8.toNat (Go.Sx.M.hx (v / (16 : Nat)))) : Int)), UInt8.ofNat (Int.toNat (↑(UInt8.toNat (Go.Sx.M.hx (v % (16 : Nat)))) : Int))]) ≤ (9223372036854775807 : Nat) ∧ Go.Sx.AV.val (Go.Value.string (Go.Sx.bstr [(48 : Nat), (48 : Nat)] ++ Go.Sx.M.tx [UInt8.ofNat (Int.toNat (↑(UInt8.toNat (Go.Sx.M.hx (v / (16 : Nat)))) : Int)), UInt8.ofNat (Int.toNat (↑(UInt8.toNat (Go.Sx.M.hx (v % (16 : Nat)))) : Int))])) = r)) ∧ (Decidable.decide (16#64 ≤ BitVec.ofInt (64 : Nat) (↑v : Int)) = Bool.false → ((0 : Int) ≤ (↑(BitVec.toNat (BitVec.ofInt (64 : Nat) (↑v : Int))) : Int) ∧ (↑(BitVec.toNat (BitVec.ofInt (64 : Nat) (↑v : Int))) : Int) < (↑(ByteArray.size (Go.Sx.M.tx digs36)) : Int)) ∧ Option.map (fun (u : UInt8) => (↑(UInt8.toNat u) : Int)) (Go.Sx.M.tx digs36)[Int.toNat (↑(BitVec.toNat (BitVec.ofInt (64 : Nat) (↑v : Int))) : Int)]? = Option.some (↑(UInt8.toNat (Go.Sx.M.hx v)) : Int) ∧ Decidable.decide ((↑v : Int) < (0 : Int)) = Bool.false ∧ Go.Sx.inRange Go.IntKind.i64 ((4 : Int) - (↑(ByteArray.size (Go.Sx.M.tx [UInt8.ofNat (Int.toNat (↑(UInt8.toNat (Go.Sx.M.hx v)) : Int))])) : Int)) ∧ ByteArray.size (Go.Sx.bstr [(48 : Nat)]) ≤ (1 : Nat) ∧ (0 : Int) ≤ (4 : Int) - (↑(ByteArray.size (Go.Sx.M.tx [UInt8.ofNat (Int.toNat (↑(UInt8.toNat (Go.Sx.M.hx v)) : Int))])) : Int) ∧ (4 : Int) - (↑(ByteArray.size (Go.Sx.M.tx [UInt8.ofNat (Int.toNat (↑(UInt8.toNat (Go.Sx.M.hx v)) : Int))])) : Int) ≤ (100 : Int) ∧ ByteArray.size (Go.Sx.bstr [(48 : Nat), (48 : Nat), (48 : Nat)]) + ByteArray.size (Go.Sx.M.tx [UInt8.ofNat (Int.toNat (↑(UInt8.toNat (Go.Sx.M.hx v)) : Int))]) ≤ (9223372036854775807 : Nat) ∧ Go.Sx.AV.val (Go.Value.string (Go.Sx.bstr [(48 : Nat), (48 : Nat), (48 : Nat)] ++ Go.Sx.M.tx [UInt8.ofNat (Int.toNat (↑(UInt8.toNat (Go.Sx.M.hx v)) : Int))])) = r)) := by kernel_rfl

theorem andN (u : BitVec 64) : (u &&& 15#64).toNat = u.toNat % 16 := by
  rw [BitVec.toNat_and, show (15#64).toNat = 2 ^ 4 - 1 from rfl, Nat.and_two_pow_sub_one_eq_mod]

theorem shrN (u : BitVec 64) : (u >>> (4 : Nat)).toNat = u.toNat / 16 := by
  rw [BitVec.toNat_ushiftRight, Nat.shiftRight_eq_div_pow]

theorem leN (u : BitVec 64) : decide (16#64 ≤ u) = decide (16 ≤ u.toNat) := by
  exact decide_eq_decide.2 BitVec.le_def

theorem hexget {n : Nat} (h : n < 16) : Option.map (fun (u : UInt8) => ((UInt8.toNat u : Nat) : Int)) (tx digs36)[Int.toNat (n : Int)]? = some ((UInt8.toNat (hx n) : Nat) : Int) := by
  rw [tx_get, Int.toNat_natCast]
  have : ∀ i : Fin 16, digs36[i.val]? = some (hx i.val) := by decide +kernel
  rw [this ⟨n, h⟩]; rfl

theorem u8_back' (c : UInt8) : UInt8.ofNat (Int.toNat ((UInt8.toNat c : Nat) : Int)) = c := u8_back c

theorem groupCs_ok : ∀ e ∈ groupCs, SpecOK Tryd.prog e.1 e.2 := by
  intro e he
  simp only [groupCs, List.mem_cons, List.not_mem_nil, or_false] at he
  rcases he with rfl | rfl
  · exact tz_ok
  · exact rep_ok

theorem group_ok : SpecOK Tryd.prog 41 (genSpec [none] groupF) := by
  refine genSpec_ok (run_ok (l := groupCs) groupCs_ok mixed noNG) fun args R hF => ?_
  unfold groupF at hF
  split at hF
  · rename_i v
    obtain ⟨h0, h1, hR⟩ := hF
    obtain ⟨n, rfl⟩ : ∃ n : Nat, v = n := ⟨v.toNat, by omega⟩
    rw [Int.toNat_natCast] at hR
    refine ⟨_, hR, rfl, fiH n, ?_⟩
    show run groupCs Tryd.prog _ [.int .i64 (n : Int)] [] _ _
    rw [group_run]
    have t0 : (BitVec.ofInt 64 (n : Int)).toNat = n := by rw [BitVec.toNat_ofInt]; omega
    generalize BitVec.ofInt 64 (n : Int) = u at t0
    have z : decide ((n : Int) < 0) = false := by simp
    have d36 : digs36.length = 36 := rfl
    have b0 : bstr [] = tx [] := rfl
    have b1 : bstr [48] = tx [48] := rfl
    have b2 : bstr [48, 48] = tx [48, 48] := rfl
    have b3 : bstr [48, 48, 48] = tx [48, 48, 48] := rfl
    simp only [leN, andN, shrN, t0, d36, z, u8_back', b0, b1, b2, b3, tx_append, tx_size, List.length_cons, List.length_nil, decide_eq_true_eq, decide_eq_false_iff_not]
    have x0 : hx 0 = 48 := rfl
    refine ⟨trivial, fun c1 => ⟨by omega, hexget (by omega), by omega, fun c2 => ⟨by omega, hexget (by omega), by omega, fun c3 => ⟨by omega, ?_, by omega, by omega, by omega, ?_, trivial, inR (by omega) (by omega), by omega, by omega, by omega, by omega, ?_⟩, fun c3 => ⟨by omega, ?_, trivial, inR (by omega) (by omega), by omega, by omega, by omega, by omega, ?_⟩⟩, fun c2 => ⟨by omega, hexget (by omega), trivial, inR (by omega) (by omega), by omega, by omega, by omega, by omega, ?_⟩⟩, fun c1 => ⟨by omega, hexget (by omega), trivial, inR (by omega) (by omega), by omega, by omega, by omega, by omega, ?_⟩⟩
    · have := hexget (n := n / 16 / 16 % 16) (by omega)
      rw [show n / 256 = n / 16 / 16 from by omega]; exact this
    · have := hexget (n := n / 16 / 16 / 16) (by omega)
      rw [show n / 4096 = n / 16 / 16 / 16 from by omega]; exact this
    · rfl
    · have := hexget (n := n / 16 / 16) (by omega)
      rw [show n / 256 = n / 16 / 16 from by omega]; exact this
    · unfold hex4
      rw [show n / 4096 = 0 from by omega, show n / 256 % 16 = n / 256 from by omega, x0]; rfl
    · unfold hex4
      rw [show n / 4096 = 0 from by omega, show n / 256 % 16 = 0 from by omega, show n / 16 % 16 = n / 16 from by omega, x0]; rfl
    · unfold hex4
      rw [show n / 4096 = 0 from by omega, show n / 256 % 16 = 0 from by omega, show n / 16 % 16 = 0 from by omega, show n % 16 = n from by omega, x0]; rfl
  · exact hF.elim

end Go.Proofs.YtkdcajibehpeaaaDoor.L1
