/-
  Layer 3: contracts of the program's Addr and Prefix.
-/
import Derived.Test.YtkdcajibehpeaaaDoorL3B
namespace Go.Proofs.YtkdcajibehpeaaaDoor.L1
open Go.Sx Go.Sx.M Go.RowKit

/-- The text of an address of a family. -/
def textA (w : Int) (a b : BitVec 64) : List UInt8 := if ofB w a b = true then (if w = 32 then text4 a b else text6 a b) else []

def addrF : List Arg → (Res → Prop) → Prop
  | [.v (.int .i64 w), .v (.agg [.w64 a, .w64 b])], R => R (.v (.val (.string (tx (textA w a b)))))
  | _, _ => False

noncomputable def addrCs : List (FuncId × Sx.Spec) := [(23, genSpec [none, none] ofF), (27, genSpec [none, none, none] baF), (33, genSpec [none] itoaF),
  (41, genSpec [none] groupF), (28, genSpec [pStr, none] joinF)]

def addrH : List Hint := [.fork [] [.fork [.loop 5] [.loop 9]]]

theorem addr_run (w : Int) (a b : BitVec 64) (r : AV) : run addrCs Tryd.prog 10 [.int .i64 w, .agg [.w64 a, .w64 b]] [] addrH (yields (.v r)) =
    (((!Go.Proofs.YtkdcajibehpeaaaDoor.L1.ofB w a b) = Bool.true → Go.Sx.AV.val (Go.Value.string (Go.Sx.bstr [])) = r) ∧ ((!Go.Proofs.YtkdcajibehpeaaaDoor.L1.ofB w a b) = Bool.false → ((w == (32 : Int)) = Bool.true → (0 : Int) ≤ (0 : Int) ∧ (0 : Int) ≤ (8 : Int) ∧ (8 : Int) ≤ (16 : Int) ∧ (0 : Int) + (8 : Int) ≤ (128 : Int) ∧ (0 : Int) ≤ (↑(Go.Sx.M.partV (fun (i : Nat) => Go.Sx.M.bitAt a b (Int.toNat (0 : Int) + i)) (Int.toNat (8 : Int))) : Int) ∧ (↑(Go.Sx.M.partV (fun (i : Nat) => Go.Sx.M.bitAt a b (Int.toNat (0 : Int) + i)) (Int.toNat (8 : Int))) : Int) ≤ (9223372036854775807 : Int) ∧ (0 : Int) ≤ (8 : Int) ∧ (0 : Int) ≤ (8 : Int) ∧ (8 : Int) ≤ (16 : Int) ∧ (8 : Int) + (8 : Int) ≤ (128 : Int) ∧ (0 : Int) ≤ (↑(Go.Sx.M.partV (fun (i : Nat) => Go.Sx.M.bitAt a b (Int.toNat (8 : Int) + i)) (Int.toNat (8 : Int))) : Int) ∧ (↑(Go.Sx.M.partV (fun (i : Nat) => Go.Sx.M.bitAt a b (Int.toNat (8 : Int) + i)) (Int.toNat (8 : Int))) : Int) ≤ (9223372036854775807 : Int) ∧ (0 : Int) ≤ (16 : Int) ∧ (0 : Int) ≤ (8 : Int) ∧ (8 : Int) ≤ (16 : Int) ∧ (16 : Int) + (8 : Int) ≤ (128 : Int) ∧ (0 : Int) ≤ (↑(Go.Sx.M.partV (fun (i : Nat) => Go.Sx.M.bitAt a b (Int.toNat (16 : Int) + i)) (Int.toNat (8 : Int))) : Int) ∧ (↑(Go.Sx.M.partV (fun (i : Nat) => Go.Sx.M.bitAt a b (Int.toNat (16 : Int) + i)) (Int.toNat (8 : Int))) : Int) ≤ (9223372036854775807 : Int) ∧ (0 : Int) ≤ (24 : Int) ∧ (0 : Int) ≤ (8 : Int) ∧ (8 : Int) ≤ (16 : Int) ∧ (24 : Int) + (8 : Int) ≤ (128 : Int) ∧ (0 : Int) ≤ (↑(Go.Sx.M.partV (fun (i : Nat) => Go.Sx.M.bitAt a b (Int.toNat (24 : Int) + i)) (Int.toNat (8 : Int))) : Int) ∧ (↑(Go.Sx.M.partV (fun (i : Nat) => Go.Sx.M.bitAt a b (Int.toNat (24 : Int) + i)) (Int.toNat (8 : Int))) : Int) ≤ (9223372036854775807 : Int) ∧ ∃ (xs : List ByteArray), [Go.Sx.AV.val (Go.Value.string (Go.Sx.M.tx (Go.Lib.decDigits (Int.toNat (↑(Go.Sx.M.partV (fun (i : Nat) => Go.Sx.M.bitAt a b (Int.toNat (0 : Int) + i)) (Int.toNat (8 : Int))) : Int))))), Go.Sx.AV.val (Go.Value.string (Go.Sx.M.tx (Go.Lib.decDigits (Int.toNat (↑(Go.Sx.M.partV (fun (i : Nat) => Go.Sx.M.bitAt a b (Int.toNat (8 : Int) + i)) (Int.toNat (8 : Int))) : Int))))), Go.Sx.AV.val (Go.Value.string (Go.Sx.M.tx (Go.Lib.decDigits (Int.toNat (↑(Go.Sx.M.partV (fun (i : Nat) => Go.Sx.M.bitAt a b (Int.toNat (16 : Int) + i)) (Int.toNat (8 : Int))) : Int))))), Go.Sx.AV.val (Go.Value.string (Go.Sx.M.tx (Go.Lib.decDigits (Int.toNat (↑(Go.Sx.M.partV (fun (i : Nat) => Go.Sx.M.bitAt a b (Int.toNat (24 : Int) + i)) (Int.toNat (8 : Int))) : Int)))))] = List.map (fun (x : ByteArray) => Go.Sx.AV.val (Go.Value.string x)) xs ∧ List.length xs ≤ (100 : Nat) ∧ List.length (Go.Lib.join (List.map (fun (x : ByteArray) => Array.toList (ByteArray.data x)) xs) [(46 : UInt8)]) ≤ (100000 : Nat) ∧ Go.Sx.AV.val (Go.Value.string (Go.Sx.M.tx (Go.Lib.join (List.map (fun (x : ByteArray) => Array.toList (ByteArray.data x)) xs) [(46 : UInt8)]))) = r) ∧ ((w == (32 : Int)) = Bool.false → (0 : Int) ≤ (0 : Int) ∧ (0 : Int) ≤ (16 : Int) ∧ (16 : Int) ≤ (16 : Int) ∧ (0 : Int) + (16 : Int) ≤ (128 : Int) ∧ (0 : Int) ≤ (↑(Go.Sx.M.partV (fun (i : Nat) => Go.Sx.M.bitAt a b (Int.toNat (0 : Int) + i)) (Int.toNat (16 : Int))) : Int) ∧ (↑(Go.Sx.M.partV (fun (i : Nat) => Go.Sx.M.bitAt a b (Int.toNat (0 : Int) + i)) (Int.toNat (16 : Int))) : Int) < (65536 : Int) ∧ (0 : Int) ≤ (16 : Int) ∧ (0 : Int) ≤ (16 : Int) ∧ (16 : Int) ≤ (16 : Int) ∧ (16 : Int) + (16 : Int) ≤ (128 : Int) ∧ (0 : Int) ≤ (↑(Go.Sx.M.partV (fun (i : Nat) => Go.Sx.M.bitAt a b (Int.toNat (16 : Int) + i)) (Int.toNat (16 : Int))) : Int) ∧ (↑(Go.Sx.M.partV (fun (i : Nat) => Go.Sx.M.bitAt a b (Int.toNat (16 : Int) + i)) (Int.toNat (16 : Int))) : Int) < (65536 : Int) ∧ (0 : Int) ≤ (32 : Int) ∧ (0 : Int) ≤ (16 : Int) ∧ (16 : Int) ≤ (16 : Int) ∧ (32 : Int) + (16 : Int) ≤ (128 : Int) ∧ (0 : Int) ≤ (↑(Go.Sx.M.partV (fun (i : Nat) => Go.Sx.M.bitAt a b (Int.toNat (32 : Int) + i)) (Int.toNat (16 : Int))) : Int) ∧ (↑(Go.Sx.M.partV (fun (i : Nat) => Go.Sx.M.bitAt a b (Int.toNat (32 : Int) + i)) (Int.toNat (16 : Int))) : Int) < (65536 : Int) ∧ (0 : Int) ≤ (48 : Int) ∧ (0 : Int) ≤ (16 : Int) ∧ (16 : Int) ≤ (16 : Int) ∧ (48 : Int) + (16 : Int) ≤ (128 : Int) ∧ (0 : Int) ≤ (↑(Go.Sx.M.partV (fun (i : Nat) => Go.Sx.M.bitAt a b (Int.toNat (48 : Int) + i)) (Int.toNat (16 : Int))) : Int) ∧ (↑(Go.Sx.M.partV (fun (i : Nat) => Go.Sx.M.bitAt a b (Int.toNat (48 : Int) + i)) (Int.toNat (16 : Int))) : Int) < (65536 : Int) ∧ (0 : Int) ≤ (64 : Int) ∧ (0 : Int) ≤ (16 : Int) ∧ (16 : Int) ≤ (16 : Int) ∧ (64 : Int) + (16 : Int) ≤ (128 : Int) ∧ (0 : Int) ≤ (↑(Go.Sx.M.partV (fun (i : Nat) => Go.Sx.M.bitAt a b (Int.toNat (64 : Int) + i)) (Int.toNat (16 : Int))) : Int) ∧ (↑(Go.Sx.M.partV (fun (i : Nat) => Go.Sx.M.bitAt a b (Int.toNat (64 : Int) + i)) (Int.toNat (16 : Int))) : Int) < (65536 : Int) ∧ (0 : Int) ≤ (80 : Int) ∧ (0 : Int) ≤ (16 : Int) ∧ (16 : Int) ≤ (16 : Int) ∧ (80 : Int) + (16 : Int) ≤ (128 : Int) ∧ (0 : Int) ≤ (↑(Go.Sx.M.partV (fun (i : Nat) => Go.Sx.M.bitAt a b (Int.toNat (80 : Int) + i)) (Int.toNat (16 : Int))) : Int) ∧ (↑(Go.Sx.M.partV (fun (i : Nat) => Go.Sx.M.bitAt a b (Int.toNat (80 : Int) + i)) (Int.toNat (16 : Int))) : Int) < (65536 : Int) ∧ (0 : Int) ≤ (96 : Int) ∧ (0 : Int) ≤ (16 : Int) ∧ (16 : Int) ≤ (16 : Int) ∧ (96 : Int) + (16 : Int) ≤ (128 : Int) ∧ (0 : Int) ≤ (↑(Go.Sx.M.partV (fun (i : Nat) => Go.Sx.M.bitAt a b (Int.toNat (96 : Int) + i)) (Int.toNat (16 : Int))) : Int) ∧ (↑(Go.Sx.M.partV (fun (i : Nat) => Go.Sx.M.bitAt a b (Int.toNat (96 : Int) + i)) (Int.toNat (16 : Int))) : Int) < (65536 : Int) ∧ (0 : Int) ≤ (112 : Int) ∧ (0 : Int) ≤ (16 : Int) ∧ (16 : Int) ≤ (16 : Int) ∧ (112 : Int) + (16 : Int) ≤ (128 : Int) ∧ (0 : Int) ≤ (↑(Go.Sx.M.partV (fun (i : Nat) => Go.Sx.M.bitAt a b (Int.toNat (112 : Int) + i)) (Int.toNat (16 : Int))) : Int) ∧ (↑(Go.Sx.M.partV (fun (i : Nat) => Go.Sx.M.bitAt a b (Int.toNat (112 : Int) + i)) (Int.toNat (16 : Int))) : Int) < (65536 : Int) ∧ ∃ (xs : List ByteArray), [Go.Sx.AV.val (Go.Value.string (Go.Sx.M.tx (Go.Sx.M.hex4 (Int.toNat (↑(Go.Sx.M.partV (fun (i : Nat) => Go.Sx.M.bitAt a b (Int.toNat (0 : Int) + i)) (Int.toNat (16 : Int))) : Int))))), Go.Sx.AV.val (Go.Value.string (Go.Sx.M.tx (Go.Sx.M.hex4 (Int.toNat (↑(Go.Sx.M.partV (fun (i : Nat) => Go.Sx.M.bitAt a b (Int.toNat (16 : Int) + i)) (Int.toNat (16 : Int))) : Int))))), Go.Sx.AV.val (Go.Value.string (Go.Sx.M.tx (Go.Sx.M.hex4 (Int.toNat (↑(Go.Sx.M.partV (fun (i : Nat) => Go.Sx.M.bitAt a b (Int.toNat (32 : Int) + i)) (Int.toNat (16 : Int))) : Int))))), Go.Sx.AV.val (Go.Value.string (Go.Sx.M.tx (Go.Sx.M.hex4 (Int.toNat (↑(Go.Sx.M.partV (fun (i : Nat) => Go.Sx.M.bitAt a b (Int.toNat (48 : Int) + i)) (Int.toNat (16 : Int))) : Int))))), Go.Sx.AV.val (Go.Value.string (Go.Sx.M.tx (Go.Sx.M.hex4 (Int.toNat (↑(Go.Sx.M.partV (fun (i : Nat) => Go.Sx.M.bitAt a b (Int.toNat (64 : Int) + i)) (Int.toNat (16 : Int))) : Int))))), Go.Sx.AV.val (Go.Value.string (Go.Sx.M.tx (Go.Sx.M.hex4 (Int.toNat (↑(Go.Sx.M.partV (fun (i : Nat) => Go.Sx.M.bitAt a b (Int.toNat (80 : Int) + i)) (Int.toNat (16 : Int))) : Int))))), Go.Sx.AV.val (Go.Value.string (Go.Sx.M.tx (Go.Sx.M.hex4 (Int.toNat (↑(Go.Sx.M.partV (fun (i : Nat) => Go.Sx.M.bitAt a b (Int.toNat (96 : Int) + i)) (Int.toNat (16 : Int))) : Int))))), Go.Sx.AV.val (Go.Value.string (Go.Sx.M.tx (Go.Sx.M.hex4 (Int.toNat (↑(Go.Sx.M.partV (fun (i : Nat) => Go.Sx.M.bitAt a b (Int.toNat (112 : Int) + i)) (Int.toNat (16 : Int))) : Int)))))] = List.map (fun (x : ByteArray) => Go.Sx.AV.val (Go.Value.string x)) xs ∧ List.length xs ≤ (100 : Nat) ∧ List.length (Go.Lib.join (List.map (fun (x : ByteArray) => Array.toList (ByteArray.data x)) xs) [(58 : UInt8)]) ≤ (100000 : Nat) ∧ Go.Sx.AV.val (Go.Value.string (Go.Sx.M.tx (Go.Lib.join (List.map (fun (x : ByteArray) => Array.toList (ByteArray.data x)) xs) [(58 : UInt8)]))) = r))) := by kernel_rfl

theorem addrCs_ok : ∀ e ∈ addrCs, SpecOK Tryd.prog e.1 e.2 := by
  intro e he
  simp only [addrCs, List.mem_cons, List.not_mem_nil, or_false] at he
  rcases he with rfl | rfl | rfl | rfl | rfl
  · exact of_ok
  · exact ba_ok
  · exact itoa_ok
  · exact group_ok
  · exact join_ok

theorem dec_len {n : Nat} (h : n < 1000) : (Lib.decDigits n).length ≤ 3 := by
  rw [Lib.decDigits]
  split
  · simp
  · rw [List.length_append, Lib.decDigits]
    split
    · simp
    · rw [List.length_append, Lib.decDigits, dif_pos (by omega)]
      simp

theorem join_len (sep : List UInt8) (hs : sep.length ≤ 1) : ∀ (xs : List (List UInt8)), (∀ x ∈ xs, x.length ≤ 4) → (Lib.join xs sep).length ≤ 5 * xs.length
  | [], _ => by simp [Lib.join]
  | [x], h => by
    have := h x (by simp)
    simp [Lib.join, List.intercalate]; omega
  | x :: y :: l, h => by
    have h1 := h x (by simp)
    have h2 := join_len sep hs (y :: l) fun z hz => h z (by simp [hz])
    have e : Lib.join (x :: y :: l) sep = x ++ sep ++ Lib.join (y :: l) sep := by simp [Lib.join, List.intercalate]
    rw [e]
    simp only [List.length_append, List.length_cons] at h2 ⊢
    omega

theorem addr_ok : SpecOK Tryd.prog 10 (genSpec [none, none] addrF) := by
  refine genSpec_ok (run_ok (l := addrCs) addrCs_ok mixed noNG) fun args R hF => ?_
  unfold addrF at hF
  split at hF
  · rename_i w a b
    refine ⟨_, hF, rfl, addrH, ?_⟩
    show run addrCs Tryd.prog _ [.int .i64 w, .agg [.w64 a, .w64 b]] [] _ _
    rw [addr_run]
    have p8 : ∀ f, partV f (Int.toNat 8) < 256 := fun f => partV_lt f 8
    have p16 : ∀ f, partV f (Int.toNat 16) < 65536 := fun f => partV_lt f 16
    refine ⟨fun h => ?_, fun h => ⟨fun hw => ?_, fun hw => ?_⟩⟩
    · unfold textA
      rw [if_neg (by simpa using h)]; rfl
    · have h1 := p8 (fun i => bitAt a b (Int.toNat 0 + i))
      have h2 := p8 (fun i => bitAt a b (Int.toNat 8 + i))
      have h3 := p8 (fun i => bitAt a b (Int.toNat 16 + i))
      have h4 := p8 (fun i => bitAt a b (Int.toNat 24 + i))
      refine ⟨by omega, by omega, by omega, by omega, by omega, by omega, by omega, by omega, by omega, by omega, by omega, by omega, by omega, by omega, by omega, by omega, by omega, by omega, by omega, by omega, by omega, by omega, by omega, by omega,
        (List.range 4).map fun k => tx (Lib.decDigits (partV (fun i => bitAt a b (8 * k + i)) 8)), rfl, by simp, ?_, ?_⟩
      · refine Nat.le_trans (join_len [46] (by simp) _ fun x hx => ?_) (by simp)
        simp only [List.map_map, List.mem_map, List.mem_range, Function.comp_apply] at hx
        obtain ⟨k, _, rfl⟩ := hx
        rw [tx_data]
        have := dec_len (n := partV (fun i => bitAt a b (8 * k + i)) 8) (Nat.lt_trans (partV_lt _ 8) (by omega))
        omega
      · unfold textA
        rw [if_pos (by simpa using h), if_pos (by simpa using hw)]
        rfl
    · have h1 := p16 (fun i => bitAt a b (Int.toNat 0 + i))
      have h2 := p16 (fun i => bitAt a b (Int.toNat 16 + i))
      have h3 := p16 (fun i => bitAt a b (Int.toNat 32 + i))
      have h4 := p16 (fun i => bitAt a b (Int.toNat 48 + i))
      have h5 := p16 (fun i => bitAt a b (Int.toNat 64 + i))
      have h6 := p16 (fun i => bitAt a b (Int.toNat 80 + i))
      have h7 := p16 (fun i => bitAt a b (Int.toNat 96 + i))
      have h8 := p16 (fun i => bitAt a b (Int.toNat 112 + i))
      refine ⟨by omega, by omega, by omega, by omega, by omega, by omega, by omega, by omega, by omega, by omega, by omega, by omega, by omega, by omega, by omega, by omega, by omega, by omega, by omega, by omega, by omega, by omega, by omega, by omega,
        by omega, by omega, by omega, by omega, by omega, by omega, by omega, by omega, by omega, by omega, by omega, by omega, by omega, by omega, by omega, by omega, by omega, by omega, by omega, by omega, by omega, by omega, by omega, by omega,
        (List.range 8).map fun k => tx (hex4 (partV (fun i => bitAt a b (16 * k + i)) 16)), rfl, by simp, ?_, ?_⟩
      · refine Nat.le_trans (join_len [58] (by simp) _ fun x hx => ?_) (by simp)
        simp only [List.map_map, List.mem_map, List.mem_range, Function.comp_apply] at hx
        obtain ⟨k, _, rfl⟩ := hx
        rw [tx_data]
        simp [hex4]
      · unfold textA
        rw [if_pos (by simpa using h), if_neg (by simpa using hw)]
        rfl
  · exact hF.elim

end Go.Proofs.YtkdcajibehpeaaaDoor.L1
